package gens

import (
	"math"
	"slices"
	"testing"

	"millpond/api"
)

const last = 1 << 24 // the greatest id, and the greatest group

// Numbers at the ends of what an id, or a group, can be, and beside them.
var ends = []int{0, 1, 2, last - 1, last}

// Numbers that neither an id nor a group can be. Some of them would be one, if bits of them were left out.
var strangers = []int{
	math.MinInt, math.MinInt + 1, -1 << 32, -last - 1, -last, -2, -1,
	last + 1, last + 2, last + 5, 2 * last, 1<<31 - 1, 1 << 31, 1 << 32, 1<<32 + 1, 1 << 40, 1 << 62, math.MaxInt - 1, math.MaxInt,
}

// row is what must be told of one id.
type row struct{ id, group, age int }

// told is what lists must tell: a row for each id that is there, by their coming.
type told struct{ rows []row }

func may(n int) bool { return n >= 0 && n <= last }

// at is where the row of an id stands, or -1.
func (m *told) at(id int) int {
	for i, r := range m.rows {
		if r.id == id {
			return i
		}
	}
	return -1
}

func (m *told) add(id, group int, old bool) api.Errno {
	if !may(id) || !may(group) {
		return api.ErrArg
	}
	if m.at(id) >= 0 {
		return api.ErrBusy
	}
	r := row{id: id, group: group}
	if old {
		r.age = 1
	}
	m.rows = append(m.rows, r)
	return api.OK
}

func (m *told) drop(id int) api.Errno {
	i := m.at(id)
	if i < 0 {
		return api.ErrNone
	}
	m.rows = append(m.rows[:i], m.rows[i+1:]...)
	return api.OK
}

func (m *told) touch(id int) api.Errno {
	i := m.at(id)
	if i < 0 {
		return api.ErrNone
	}
	m.rows[i].age = 0
	return api.OK
}

func (m *told) move(from, to int) int {
	n := 0
	for i := range m.rows {
		if may(to) && to != from && m.rows[i].group == from {
			m.rows[i].group = to
			n++
		}
	}
	return n
}

func (m *told) age(group int) int {
	n := 0
	for i := range m.rows {
		if m.rows[i].group == group && m.rows[i].age < 3 {
			m.rows[i].age++
			n++
		}
	}
	return n
}

// order lays the ids of each age by themselves, from the oldest on.
func (m *told) order(groups []int) []int {
	var l []int
	for age := 3; age >= 0; age-- {
		var same []int
		for _, r := range m.rows {
			if r.age == age && slices.Contains(groups, r.group) {
				same = append(same, r.id)
			}
		}
		slices.Sort(same)
		l = append(l, same...)
	}
	return l
}

func (m *told) count(group int) int {
	n := 0
	for _, r := range m.rows {
		if r.group == group {
			n++
		}
	}
	return n
}

// pair is lists, and what they must tell.
type pair struct {
	l *Lists
	m *told
}

func start() *pair { return &pair{New(), &told{}} }

// holds tells whether the lists tell of all that is there, of the ends, and of numbers that can be nothing, what they must.
func (p *pair) holds(t *testing.T) {
	t.Helper()
	ids := slices.Concat(ends, strangers)
	groups := slices.Concat(ends, strangers)
	for _, r := range p.m.rows {
		ids = append(ids, r.id, r.id+1)
		if !slices.Contains(groups, r.group) {
			groups = append(groups, r.group)
		}
	}
	for _, id := range ids {
		p.holdsOf(t, id)
	}
	for _, g := range groups {
		if got, want := p.l.Count(g), p.m.count(g); got != want {
			t.Fatalf("Count(%d): %d, want %d", g, got, want)
		}
		p.orders(t, g)
	}
	p.orders(t)
	p.orders(t, groups...)
}

func (p *pair) holdsOf(t *testing.T, id int) {
	t.Helper()
	group, age := -1, -1
	if i := p.m.at(id); i >= 0 {
		group, age = p.m.rows[i].group, p.m.rows[i].age
	}
	if g, o := p.l.Group(id), p.l.Oldness(id); g != group || o != age {
		t.Fatalf("%d is in group %d, of age %d, want %d, %d", id, g, o, group, age)
	}
}

// orders is an Order of what it must be, that leaves what it was asked as it was.
func (p *pair) orders(t *testing.T, groups ...int) []int {
	t.Helper()
	asked := slices.Clone(groups)
	got := p.l.Order(groups)
	if want := p.m.order(groups); !slices.Equal(got, want) {
		t.Fatalf("Order(%v): %v, want %v", groups, got, want)
	}
	if !slices.Equal(groups, asked) {
		t.Fatalf("Order turned %v into %v", asked, groups)
	}
	return got
}

// add, drop, touch, move and age do the call, and hold its answer against what it must be; what it must have changed is left to holds.
func (p *pair) add(t *testing.T, id, group int, old bool) api.Errno {
	t.Helper()
	want := p.m.add(id, group, old)
	e := p.l.Add(id, group, old)
	if e != want {
		t.Fatalf("Add(%d, %d, %v): %v, want %v", id, group, old, e, want)
	}
	return e
}

func (p *pair) drop(t *testing.T, id int) api.Errno {
	t.Helper()
	want := p.m.drop(id)
	e := p.l.Drop(id)
	if e != want {
		t.Fatalf("Drop(%d): %v, want %v", id, e, want)
	}
	return e
}

func (p *pair) touch(t *testing.T, id int) api.Errno {
	t.Helper()
	want := p.m.touch(id)
	e := p.l.Touch(id)
	if e != want {
		t.Fatalf("Touch(%d): %v, want %v", id, e, want)
	}
	return e
}

func (p *pair) move(t *testing.T, from, to int) int {
	t.Helper()
	want := p.m.move(from, to)
	n := p.l.Move(from, to)
	if n != want {
		t.Fatalf("Move(%d, %d): %d, want %d", from, to, n, want)
	}
	return n
}

func (p *pair) age(t *testing.T, group int) int {
	t.Helper()
	want := p.m.age(group)
	n := p.l.Age(group)
	if n != want {
		t.Fatalf("Age(%d): %d, want %d", group, n, want)
	}
	return n
}

// adds is an Add that must be done.
func adds(t *testing.T, p *pair, id, group int, old bool) {
	t.Helper()
	if e := p.add(t, id, group, old); e != api.OK {
		t.Fatalf("Add(%d, %d, %v): %v", id, group, old, e)
	}
	p.holds(t)
}

// refuses is an Add that must change nothing, whether it is to be old or not.
func refuses(t *testing.T, p *pair, want api.Errno, id, group int) {
	t.Helper()
	for _, old := range []bool{false, true} {
		if e := p.add(t, id, group, old); e != want {
			t.Fatalf("Add(%d, %d, %v): %v, want %v", id, group, old, e, want)
		}
		p.holds(t)
	}
}

// lacks is an id that is not there, so that neither Drop nor Touch does anything.
func lacks(t *testing.T, p *pair, id int) {
	t.Helper()
	if e := p.drop(t, id); e != api.ErrNone {
		t.Fatalf("Drop(%d): %v, want ErrNone", id, e)
	}
	if e := p.touch(t, id); e != api.ErrNone {
		t.Fatalf("Touch(%d): %v, want ErrNone", id, e)
	}
	if g, o := p.l.Group(id), p.l.Oldness(id); g != -1 || o != -1 {
		t.Fatalf("%d is in group %d, of age %d", id, g, o)
	}
	p.holds(t)
}

// drops, touches, moves and ages are calls that must be done, of so many.
func drops(t *testing.T, p *pair, id int) {
	t.Helper()
	if e := p.drop(t, id); e != api.OK {
		t.Fatalf("Drop(%d): %v", id, e)
	}
	p.holds(t)
}

func touches(t *testing.T, p *pair, id int) {
	t.Helper()
	if e := p.touch(t, id); e != api.OK {
		t.Fatalf("Touch(%d): %v", id, e)
	}
	p.holds(t)
}

func moves(t *testing.T, p *pair, want, from, to int) {
	t.Helper()
	if n := p.move(t, from, to); n != want {
		t.Fatalf("Move(%d, %d): %d, want %d", from, to, n, want)
	}
	p.holds(t)
}

func ages(t *testing.T, p *pair, want, group int) {
	t.Helper()
	if n := p.age(t, group); n != want {
		t.Fatalf("Age(%d): %d, want %d", group, n, want)
	}
	p.holds(t)
}

// lies is an Order that must be just these.
func lies(t *testing.T, p *pair, groups []int, want ...int) {
	t.Helper()
	if got := p.orders(t, groups...); !slices.Equal(got, want) {
		t.Fatalf("Order(%v): %v, want %v", groups, got, want)
	}
}

// ofAge lets an id be there with that age; it must be alone in its group.
func ofAge(t *testing.T, p *pair, id, group, age int) {
	t.Helper()
	adds(t, p, id, group, false)
	for range age {
		ages(t, p, 1, group)
	}
	if o := p.l.Oldness(id); o != age {
		t.Fatalf("%d is of age %d, want %d", id, o, age)
	}
}

// fourAges lets ids 10, 11, 12 and 13 be in a group, with ages 0, 1, 2 and 3.
func fourAges(t *testing.T, p *pair, group int) {
	t.Helper()
	for age := 3; age >= 0; age-- {
		adds(t, p, 10+age, group, false)
		if age > 0 {
			ages(t, p, 4-age, group)
		}
	}
	for age := range 4 {
		if o := p.l.Oldness(10 + age); o != age {
			t.Fatalf("%d is of age %d", 10+age, o)
		}
	}
}

// steps is numbers that look mixed, the same ones at each run.
func steps(x uint64) func(n int) int {
	return func(n int) int {
		x = x*6364136223846793005 + 1442695040888963407
		return int((x ^ x>>29) >> 8 % uint64(n))
	}
}

// turns calls f with each order of a list.
func turns(l []int, f func([]int)) {
	if len(l) == 0 {
		f(nil)
		return
	}
	for i, x := range l {
		rest := slices.Concat(l[:i], l[i+1:])
		turns(rest, func(behind []int) { f(append([]int{x}, behind...)) })
	}
}

// The chapter's example.
func TestExample(t *testing.T) {
	l := New()
	for _, id := range []int{5, 3} {
		if e := l.Add(id, 1, false); e != api.OK {
			t.Error(id, e)
		}
	}
	if n := l.Age(1); n != 2 {
		t.Error(n)
	}
	if e := l.Add(4, 1, false); e != api.OK {
		t.Error(e)
	}
	if o := l.Order([]int{1}); !slices.Equal(o, []int{3, 5, 4}) {
		t.Error(o)
	}
}

func TestNew(t *testing.T) {
	l := New()
	for _, n := range slices.Concat(ends, strangers) {
		if l.Group(n) != -1 || l.Oldness(n) != -1 || l.Count(n) != 0 || len(l.Order([]int{n})) != 0 {
			t.Error(n, l.Group(n), l.Oldness(n), l.Count(n), l.Order([]int{n}))
		}
		if l.Drop(n) != api.ErrNone || l.Touch(n) != api.ErrNone || l.Age(n) != 0 || l.Move(n, 1) != 0 || l.Move(1, n) != 0 {
			t.Error(n, l.Drop(n), l.Touch(n), l.Age(n), l.Move(n, 1), l.Move(1, n))
		}
	}
	if len(l.Order(nil)) != 0 {
		t.Error(l.Order(nil))
	}
	start().holds(t)
}

func TestAdd(t *testing.T) {
	for _, id := range ends {
		for _, group := range ends {
			for age, old := range []bool{false, true} {
				p := start()
				adds(t, p, id, group, old)
				if p.l.Group(id) != group || p.l.Oldness(id) != age || p.l.Count(group) != 1 {
					t.Error(id, group, old, p.l.Group(id), p.l.Oldness(id), p.l.Count(group))
				}
				lies(t, p, []int{group}, id)
			}
		}
	}
}

// All ends together, in one of the lists.
func TestAddAllEnds(t *testing.T) {
	p := start()
	for i, id := range ends {
		adds(t, p, id, ends[len(ends)-1-i], i%2 == 0)
	}
	lies(t, p, ends, 0, 2, last, 1, last-1)
}

// What can be neither an id nor a group is refused, beside a good one of the other and beside a wrong one, and whatever is there.
func TestAddOfWrongNumbers(t *testing.T) {
	p := start()
	wrong := func() {
		t.Helper()
		for _, n := range strangers {
			for _, good := range []int{0, 1, 7, last} {
				refuses(t, p, api.ErrArg, n, good)
				refuses(t, p, api.ErrArg, good, n)
			}
			refuses(t, p, api.ErrArg, n, n)
			refuses(t, p, api.ErrArg, -1, n)
			refuses(t, p, api.ErrArg, n, last+1)
		}
	}
	wrong()
	for i, id := range []int{0, 7, last} {
		adds(t, p, id, ends[i], i == 1)
	}
	ages(t, p, 1, 0)
	wrong() // 0, 7 and last are there now, and are ErrArg all the same, since that is named first
}

// An id that is there is busy, whatever its group and its age, and whatever group is asked for.
func TestAddOfWhatIsThere(t *testing.T) {
	for age := range 4 {
		for _, group := range ends {
			p := start()
			ofAge(t, p, 9, group, age)
			for _, other := range append(slices.Clone(ends), 77) {
				refuses(t, p, api.ErrBusy, 9, other)
			}
			for _, wrong := range strangers {
				refuses(t, p, api.ErrArg, 9, wrong)
			}
			if p.l.Group(9) != group || p.l.Oldness(9) != age {
				t.Error(group, age, p.l.Group(9), p.l.Oldness(9))
			}
		}
	}
	for _, id := range ends {
		p := start()
		adds(t, p, id, 3, true)
		refuses(t, p, api.ErrBusy, id, 3)
		refuses(t, p, api.ErrBusy, id, 4)
		moves(t, p, 1, 3, 4)
		refuses(t, p, api.ErrBusy, id, 3)
		refuses(t, p, api.ErrBusy, id, 4)
		touches(t, p, id)
		refuses(t, p, api.ErrBusy, id, 4)
	}
}

// What was dropped comes again as if it had never been there.
func TestAddAgain(t *testing.T) {
	for age := range 4 {
		for _, id := range ends {
			for _, group := range []int{5, 6} {
				for newAge, old := range []bool{false, true} {
					p := start()
					ofAge(t, p, id, 5, age)
					drops(t, p, id)
					adds(t, p, id, group, old)
					if p.l.Group(id) != group || p.l.Oldness(id) != newAge || p.l.Count(5)+p.l.Count(6) != 1 {
						t.Error(age, id, group, old, p.l.Group(id), p.l.Oldness(id))
					}
					refuses(t, p, api.ErrBusy, id, group)
					drops(t, p, id)
					lacks(t, p, id)
				}
			}
		}
	}
}

func TestDrop(t *testing.T) {
	p := start()
	for _, id := range slices.Concat(ends, strangers) {
		lacks(t, p, id)
	}
	for _, id := range ends {
		adds(t, p, id, 4, false)
	}
	for _, id := range append(slices.Clone(strangers), 3, 4, 5, last-2) { // 4 is a group, but no id
		lacks(t, p, id)
	}
	for i, id := range ends {
		drops(t, p, id)
		lacks(t, p, id)
		if n := p.l.Count(4); n != len(ends)-1-i {
			t.Error(id, n)
		}
	}
	for age := range 4 {
		fourAges(t, p, age)
		drops(t, p, 10+age)
		lacks(t, p, 10+age)
		for id := 10; id < 14; id++ {
			p.drop(t, id)
		}
		p.holds(t)
	}
}

func TestTouch(t *testing.T) {
	p := start()
	fourAges(t, p, 2)
	oldestFirst := []int{13, 12, 11, 10}
	lies(t, p, []int{2}, oldestFirst...)
	for _, id := range oldestFirst {
		touches(t, p, id)
		if p.l.Oldness(id) != 0 || p.l.Group(id) != 2 || p.l.Count(2) != 4 {
			t.Error(id, p.l.Oldness(id), p.l.Group(id), p.l.Count(2))
		}
		touches(t, p, id) // once more
	}
	lies(t, p, []int{2}, 10, 11, 12, 13)
	ages(t, p, 4, 2)
	for _, id := range append(slices.Clone(strangers), 0, 2, 9, 14, last) {
		if e := p.touch(t, id); e != api.ErrNone {
			t.Errorf("Touch(%d): %v", id, e)
		}
		p.holds(t)
	}
	drops(t, p, 12)
	lacks(t, p, 12)
	for _, id := range ends {
		adds(t, p, id, 30, true)
		touches(t, p, id)
		if o := p.l.Oldness(id); o != 0 {
			t.Error(id, o)
		}
	}
}

// Whatever its age was, and whatever the id: what was touched comes behind all that are older, and what is touched and grows older again goes ahead of what is touched then.
func TestTouchedComesLast(t *testing.T) {
	for id := 10; id < 14; id++ {
		p := start()
		fourAges(t, p, 2)
		ages(t, p, 3, 2) // none is young now
		touches(t, p, id)
		got := p.orders(t, 2)
		if len(got) != 4 || got[3] != id {
			t.Fatalf("%d was touched: %v", id, got)
		}
		ages(t, p, len(got)-p.ofTheOldest(), 2)
		for _, other := range got[:3] {
			touches(t, p, other)
		}
		if got = p.orders(t, 2); got[0] != id {
			t.Fatalf("all but %d were touched: %v", id, got)
		}
	}
}

// ofTheOldest is how many can grow no older.
func (p *pair) ofTheOldest() int {
	n := 0
	for _, r := range p.m.rows {
		if r.age == 3 {
			n++
		}
	}
	return n
}

func TestAge(t *testing.T) {
	for _, group := range ends {
		p := start()
		adds(t, p, 20, group, false)
		for age := 1; age <= 3; age++ {
			ages(t, p, 1, group)
			if o := p.l.Oldness(20); o != age {
				t.Errorf("of age %d, want %d", o, age)
			}
		}
		ages(t, p, 0, group) // all that are in it are of age 3
		ages(t, p, 0, group)
		adds(t, p, 21, group, true)
		adds(t, p, 22, group, false)
		ages(t, p, 2, group) // some are
		ages(t, p, 2, group)
		ages(t, p, 1, group)
		ages(t, p, 0, group)
		lies(t, p, []int{group}, 20, 21, 22)
		touches(t, p, 21)
		ages(t, p, 1, group)
		if p.l.Oldness(20) != 3 || p.l.Oldness(21) != 1 || p.l.Oldness(22) != 3 {
			t.Error(p.l.Oldness(20), p.l.Oldness(21), p.l.Oldness(22))
		}
	}
}

// All four ages at once: each but the oldest is one older, and none two.
func TestAgeOfAllAges(t *testing.T) {
	p := start()
	fourAges(t, p, 8)
	for i, want := range [][]int{{0, 1, 2, 3}, {1, 2, 3, 3}, {2, 3, 3, 3}, {3, 3, 3, 3}} {
		for age, o := range want {
			if got := p.l.Oldness(10 + age); got != o {
				t.Errorf("%d is of age %d, want %d", 10+age, got, o)
			}
		}
		ages(t, p, 3-i, 8)
	}
}

// Groups that nothing is in, or that can't be one, grow no older, and nothing of others does.
func TestAgeOfNone(t *testing.T) {
	p := start()
	fourAges(t, p, 8)
	for _, group := range slices.Concat(ends, strangers, []int{7, 9, 10, 13}) {
		ages(t, p, 0, group)
	}
	moves(t, p, 4, 8, 9)
	ages(t, p, 0, 8)
	for id := 10; id < 14; id++ {
		drops(t, p, id)
	}
	ages(t, p, 0, 9)
}

func TestMove(t *testing.T) {
	for _, from := range ends {
		for _, to := range ends {
			p := start()
			fourAges(t, p, from)
			adds(t, p, 30, 50, true)
			want := 4
			if from == to {
				want = 0
			}
			moves(t, p, want, from, to)
			if p.l.Count(to) != 4 || p.l.Count(50) != 1 {
				t.Error(from, to, p.l.Count(to), p.l.Count(50))
			}
			for age := range 4 {
				if p.l.Group(10+age) != to || p.l.Oldness(10+age) != age {
					t.Error(from, to, p.l.Group(10+age), p.l.Oldness(10+age))
				}
			}
			lies(t, p, []int{to}, 13, 12, 11, 10)
		}
	}
}

// To a group that has ids of its own, which stay, and are not counted.
func TestMoveToOthers(t *testing.T) {
	p := start()
	fourAges(t, p, 1)
	ofAge(t, p, 5, 2, 2)
	adds(t, p, 20, 2, true)
	adds(t, p, 12345, 2, false)
	moves(t, p, 4, 1, 2)
	lies(t, p, []int{2}, 13, 5, 12, 11, 20, 10, 12345)
	lies(t, p, []int{1})
	moves(t, p, 0, 1, 2) // nothing is left there
	moves(t, p, 7, 2, 1) // and all goes back, also what was there by itself
	lies(t, p, []int{1}, 13, 5, 12, 11, 20, 10, 12345)
	ages(t, p, 6, 1)
	moves(t, p, 7, 1, last)
	moves(t, p, 7, last, 0)
	moves(t, p, 7, 0, 3)
}

// To the same group, and to what can't be one, nothing is moved; from what nothing is in, or can't be one, neither.
func TestMoveOfNone(t *testing.T) {
	p := start()
	fourAges(t, p, 8)
	adds(t, p, 0, 0, true)
	adds(t, p, last, last, true)
	for _, wrong := range strangers {
		for _, g := range []int{0, 8, 9, last} {
			moves(t, p, 0, g, wrong)
			moves(t, p, 0, wrong, g)
		}
		moves(t, p, 0, wrong, wrong)
		moves(t, p, 0, -1, wrong)
	}
	for _, g := range []int{0, 8, last} {
		moves(t, p, 0, g, g)
		moves(t, p, 0, 9, g)
		moves(t, p, 0, 10, g) // an id, but no group
	}
	moves(t, p, 0, 9, 9)
}

func TestCount(t *testing.T) {
	p := start()
	for n := range 20 {
		if got := p.l.Count(6); got != n {
			t.Errorf("Count: %d, want %d", got, n)
		}
		adds(t, p, 100-n, 6, n%2 == 0)
		adds(t, p, 100+n+1, 7+n%3, n%2 == 1)
	}
	for _, g := range append(slices.Clone(strangers), 5, 10, 100, last) {
		if n := p.l.Count(g); n != 0 {
			t.Errorf("Count(%d): %d", g, n)
		}
	}
	touches(t, p, 100)
	ages(t, p, 20, 6)
	if n := p.l.Count(6); n != 20 {
		t.Error(n)
	}
	drops(t, p, 100)
	drops(t, p, 101)
	moves(t, p, 7, 8, 9)
	for g, want := range map[int]int{6: 19, 7: 6, 8: 0, 9: 13} {
		if n := p.l.Count(g); n != want {
			t.Errorf("Count(%d): %d, want %d", g, n, want)
		}
	}
}

func TestOrder(t *testing.T) {
	p := start()
	lies(t, p, nil)
	lies(t, p, []int{1, 2})
	fourAges(t, p, 1)
	ofAge(t, p, 3, 2, 2)
	adds(t, p, 40, 2, false)
	ofAge(t, p, 12345, 0, 3)
	ofAge(t, p, 0, last, 1)
	lies(t, p, nil)
	lies(t, p, []int{})
	lies(t, p, []int{1}, 13, 12, 11, 10)
	lies(t, p, []int{2}, 3, 40)
	lies(t, p, []int{0}, 12345)
	lies(t, p, []int{last}, 0)
	lies(t, p, []int{3})
	lies(t, p, []int{1, 2}, 13, 3, 12, 11, 10, 40)
	lies(t, p, []int{2, 1}, 13, 3, 12, 11, 10, 40)
	lies(t, p, []int{2, last}, 3, 0, 40)
	lies(t, p, []int{last, 2, 1, 0}, 13, 12345, 3, 12, 0, 11, 10, 40)
	lies(t, p, []int{2, 2}, 3, 40) // each once
	lies(t, p, []int{1, 2, 1, 1, 2}, 13, 3, 12, 11, 10, 40)
	lies(t, p, []int{3, 2, 4, 3}, 3, 40)
	lies(t, p, strangers)
	lies(t, p, append(slices.Clone(strangers), 2), 3, 40)
	lies(t, p, []int{-1, 2, -1}, 3, 40)
	for _, wrong := range strangers {
		lies(t, p, []int{wrong})
	}
}

// A long list of groups, most of them asked for many times.
func TestOrderOfManyGroups(t *testing.T) {
	p := start()
	fourAges(t, p, 1)
	adds(t, p, 3, 99999, true)
	var groups []int
	for n := range 300000 {
		groups = append(groups, n%100001-1)
	}
	asked := slices.Clone(groups)
	if got := p.l.Order(groups); !slices.Equal(got, []int{13, 12, 3, 11, 10}) {
		t.Error(got)
	}
	if !slices.Equal(groups, asked) {
		t.Error("what was asked for is another list now")
	}
}

// Of one age the least comes first, however they came, and also by which way they came to that age.
func TestOrderOfOneAge(t *testing.T) {
	ids := []int{0, 4, 9, 70, last}
	turns(ids, func(l []int) {
		for age := range 4 {
			p := start()
			for i, id := range l {
				p.add(t, id, i%2, false)
			}
			for range age {
				p.age(t, 0)
				p.age(t, 1)
			}
			lies(t, p, []int{0, 1}, ids...)
			p.age(t, 1)
			p.orders(t, 0, 1)
			p.orders(t, 1)
		}
	})
	turns([]int{1, 2, 3, 4}, func(l []int) {
		p := start()
		p.add(t, l[0], 1, false)
		p.age(t, 1)
		p.add(t, l[1], 1, true)
		p.add(t, l[2], 2, true)
		p.touch(t, l[2])
		p.age(t, 2)
		p.move(t, 2, 1)
		p.add(t, l[3], 3, true)
		p.drop(t, l[3])
		p.add(t, l[3], 1, true)
		lies(t, p, []int{1}, 1, 2, 3, 4)
	})
}

// All ages of four ids: what is older comes first, whatever the ids.
func TestOlderFirst(t *testing.T) {
	for x := range 4 * 4 * 4 * 4 {
		p := start()
		ofEach := []int{x % 4, x / 4 % 4, x / 16 % 4, x / 64}
		for id, age := range ofEach {
			p.add(t, id, id, false)
			for range age {
				p.age(t, id)
			}
		}
		groups := []int{0, 1, 2, 3}
		got := p.orders(t, groups...)
		for i := 1; i < len(got); i++ {
			a, b := got[i-1], got[i]
			if ofEach[a] < ofEach[b] || ofEach[a] == ofEach[b] && a > b {
				t.Fatalf("ages %v: %v", ofEach, got)
			}
		}
		if len(got) != 4 {
			t.Fatalf("ages %v: %v", ofEach, got)
		}
	}
}

// What an Order answered is the caller's own: it may be changed, and stays as it is whatever is done.
func TestOrderIsTheCallers(t *testing.T) {
	p := start()
	fourAges(t, p, 1)
	groups := []int{1}
	one, two := p.l.Order(groups), p.l.Order(groups)
	for i := range one {
		one[i] = -7
	}
	one = append(one, 99)
	if !slices.Equal(two, []int{13, 12, 11, 10}) {
		t.Error(two)
	}
	p.holds(t)
	touches(t, p, 13)
	drops(t, p, 12)
	adds(t, p, 1, 1, true)
	moves(t, p, 4, 1, 2)
	groups[0] = 2 // nor is what was asked for kept
	if !slices.Equal(two, []int{13, 12, 11, 10}) || !slices.Equal(one, []int{-7, -7, -7, -7, 99}) {
		t.Error(one, two)
	}
	lies(t, p, []int{1})
	lies(t, p, []int{2}, 1, 11, 10, 13)
}

// What a call answers of one group is not changed by what is done to another one.
func TestGroupsApart(t *testing.T) {
	p := start()
	fourAges(t, p, 1)
	apart := func(what string) {
		t.Helper()
		if got := p.l.Order([]int{1}); !slices.Equal(got, []int{13, 12, 11, 10}) || p.l.Count(1) != 4 {
			t.Fatalf("%s: %v, %d", what, got, p.l.Count(1))
		}
		for age := range 4 {
			if p.l.Group(10+age) != 1 || p.l.Oldness(10+age) != age {
				t.Fatalf("%s: %d is in group %d, of age %d", what, 10+age, p.l.Group(10+age), p.l.Oldness(10+age))
			}
		}
	}
	for _, g := range []int{0, 2, 10, 13, last} {
		adds(t, p, 20, g, false)
		apart("Add")
		adds(t, p, 21, g, true)
		apart("Add old")
		refuses(t, p, api.ErrBusy, 10, g)
		apart("Add of what is there")
		for n := range 5 {
			ages(t, p, []int{2, 2, 1, 0, 0}[n], g)
			apart("Age")
		}
		touches(t, p, 20)
		apart("Touch")
		moves(t, p, 2, g, 33)
		apart("Move")
		moves(t, p, 2, 33, g)
		apart("Move")
		drops(t, p, 20)
		apart("Drop")
		drops(t, p, 21)
		apart("Drop")
	}
}

// Two Lists have nothing in common.
func TestTwoLists(t *testing.T) {
	p, q := start(), start()
	fourAges(t, p, 1)
	q.holds(t)
	lacks(t, q, 10)
	adds(t, q, 10, 1, true)
	adds(t, q, 13, 2, false)
	ages(t, q, 1, 1)
	moves(t, q, 1, 1, 2)
	p.holds(t)
	drops(t, p, 13)
	ages(t, p, 3, 1)
	touches(t, p, 10)
	q.holds(t)
	lies(t, p, []int{1, 2}, 12, 11, 10)
	lies(t, q, []int{1, 2}, 10, 13)
	start().holds(t)
}

// Many ids, of all ages, in several groups.
func TestMany(t *testing.T) {
	const many = 60000
	l := New()
	ofEach := make([]int, many)
	group := func(i int) int { return i % 5 }
	number := func(i int) int { return i * 277 % (last + 1) } // each another one, up and down
	for turn := range 4 {
		for i := turn * many / 4; i < (turn+1)*many/4; i++ {
			old := i%7 == 0
			if e := l.Add(number(i), group(i), old); e != api.OK {
				t.Fatal(i, e)
			}
			if old {
				ofEach[i] = 1
			}
		}
		if turn < 3 {
			grow(t, l, group, ofEach[:(turn+1)*many/4])
		}
	}
	for i := 0; i < many; i += 11 {
		if e := l.Touch(number(i)); e != api.OK {
			t.Fatal(i, e)
		}
		ofEach[i] = 0
	}
	var want []int
	for age := 3; age >= 0; age-- {
		var same []int
		for i, a := range ofEach {
			if a == age && group(i) != 3 {
				same = append(same, number(i))
			}
		}
		if len(same) == 0 {
			t.Fatal("none is of age", age)
		}
		slices.Sort(same)
		want = append(want, same...)
	}
	if got := l.Order([]int{4, 2, 1, 0, 2, 9}); !slices.Equal(got, want) {
		t.Error("Order of many is another one")
	}
	if n := l.Move(2, 3); n != many/5 || l.Count(3) != 2*many/5 || l.Count(2) != 0 {
		t.Error(n, l.Count(3), l.Count(2))
	}
}

// grow lets all groups but 4 grow older.
func grow(t *testing.T, l *Lists, group func(int) int, ofEach []int) {
	t.Helper()
	for g := range 4 {
		want := 0
		for i := range ofEach {
			if group(i) == g && ofEach[i] < 3 {
				ofEach[i]++
				want++
			}
		}
		if n := l.Age(g); n != want {
			t.Fatalf("Age(%d): %d, want %d", g, n, want)
		}
	}
}

// All calls, mixed, with few numbers, so that they meet, and with wrong ones among them.
func TestMixed(t *testing.T) {
	numbers := []int{0, 1, 2, 3, 4, 5, 6, 7, 8, 9, last - 1, last, -1, last + 1, math.MinInt, math.MaxInt}
	for seed := range uint64(40) {
		next := steps(seed + 1)
		some := func() int { return numbers[next(len(numbers))] }
		group := func() int { return numbers[next(4)*4+next(2)] }
		p := start()
		for range 300 {
			switch next(8) {
			case 0, 1, 2:
				p.add(t, some(), group(), next(2) == 0)
			case 3:
				p.drop(t, some())
			case 4:
				p.touch(t, some())
			case 5:
				p.move(t, group(), group())
			case 6:
				p.age(t, group())
			case 7:
				p.orders(t, group(), group(), group())
			}
			p.holds(t)
		}
	}
}
