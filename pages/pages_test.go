package pages

import (
	"maps"
	"math"
	"slices"
	"testing"

	"millpond/api"
)

// Numbers at the ends, and beside them; below 0, and greater than any id of a test.
var ends = []int{math.MinInt, math.MinInt + 1, -1 << 40, -1 << 32, -1001, -2, -1, 1 << 16, 1 << 31, 1 << 32, 1 << 40, 1 << 62, math.MaxInt - 1, math.MaxInt}

// Owners may be any number.
var owners = slices.Concat(ends, []int{0, 1, 2, 63, 64})

// Files of keys that are kept, and of keys that are not.
var (
	files   = []int{0, 1, 2, 31, 32, 1 << 32, math.MaxInt - 1, math.MaxInt}
	noFiles = []int{math.MinInt, math.MinInt + 1, -1 << 32, -32, -5, -2, -1}
)

// Indices of keys, each of which is one beside any file.
var indices = []int{math.MinInt, -1 << 32, -7, -1, 0, 1, 2, 7, 4095, 4096, 1 << 32, math.MaxInt}

// Places that a page can be at, and places that are none of the three.
var (
	somewhere = []api.Place{api.PlaceFrame, api.PlaceSlot}
	nowhere   = []api.Place{math.MinInt, -1 << 32, -3, -2, -1, 3, 4, 1 << 32, 1<<32 + 1, 1<<62 + 2, math.MaxInt}
)

// Where at a place a page can be, and where it can't.
var (
	spotsAt   = []int{0, 1, 2, 3, 5, 1023, 1024, 1 << 32, math.MaxInt - 1, math.MaxInt}
	noSpotsAt = []int{math.MinInt, math.MinInt + 1, -1 << 32, -1024, -5, -2, -1}
)

// row is a page as it must be, with its id, in a list without any index.
type row struct {
	id   int
	page api.Page
}

// told is what a table must tell.
type told struct {
	made int
	rows []row
}

// find is where in the list the first one stands of which that is so; -1, if it is of none.
func (m *told) find(is func(r row) bool) int { return slices.IndexFunc(m.rows, is) }

func (m *told) where(id int) int { return m.find(func(r row) bool { return r.id == id }) }

func (m *told) idOf(i int) int {
	if i < 0 {
		return -1
	}
	return m.rows[i].id
}

func (m *told) of(key api.Key) int {
	return m.idOf(m.find(func(r row) bool { return key.File >= 0 && r.page.Key == key }))
}

func (m *told) at(place api.Place, at int) int {
	return m.idOf(m.find(func(r row) bool { return place != 0 && r.page.Place == place && r.page.At == at }))
}

func (m *told) make(key api.Key, owner int) (int, api.Errno) {
	if m.of(key) >= 0 {
		return -1, 4
	}
	if key.File < 0 {
		key.File, key.Index = -1, m.made
	}
	m.rows = append(m.rows, row{m.made, api.Page{Key: key, Owner: owner}})
	m.made++
	return m.made - 1, 0
}

func (m *told) get(id int) (api.Page, api.Errno) {
	if i := m.where(id); i >= 0 {
		return m.rows[i].page, 0
	}
	return api.Page{}, 2
}

func (m *told) put(id int, place api.Place, at int) api.Errno {
	i := m.where(id)
	if i < 0 {
		return 2
	}
	if place < 0 || place > 2 || at < 0 || place == 0 && at > 0 {
		return 1
	}
	if there := m.at(place, at); there >= 0 && there != id {
		return 4
	}
	m.rows[i].page.Place, m.rows[i].page.At = place, at
	return 0
}

func (m *told) refer(id, n int) (int, api.Errno) {
	i := m.where(id)
	if i < 0 {
		return 0, 2
	}
	if n < -1000 || n > 1000 || n < -m.rows[i].page.Refs {
		return 0, 1
	}
	m.rows[i].page.Refs += n
	return m.rows[i].page.Refs, 0
}

func (m *told) drop(id int) api.Errno {
	i := m.where(id)
	if i < 0 {
		return 2
	}
	if m.rows[i].page.Refs != 0 || m.rows[i].page.Place != 0 {
		return 4
	}
	m.rows = slices.Delete(m.rows, i, i+1)
	return 0
}

func (m *told) own(id, owner int) api.Errno {
	i := m.where(id)
	if i < 0 {
		return 2
	}
	m.rows[i].page.Owner = owner
	return 0
}

func (m *told) mark(id int, dirty bool) api.Errno {
	i := m.where(id)
	if i < 0 {
		return 2
	}
	m.rows[i].page.Dirty = dirty
	return 0
}

// ids is those of pages of which that is so; the list is by id, since pages are laid at its end alone.
func (m *told) ids(is func(p api.Page) bool) []int {
	var l []int
	for _, r := range m.rows {
		if is(r.page) {
			l = append(l, r.id)
		}
	}
	return l
}

// pair is a table, and what it must tell.
type pair struct {
	t *Table
	m *told
}

func start() *pair { return &pair{New(), &told{}} }

// strangers is ids that there are not: those of no page yet, or no more, and those of none ever.
func (p *pair) strangers() []int {
	l := slices.Concat(ends, []int{p.m.made, p.m.made + 1, p.m.made + 64})
	for id := range p.m.made {
		if p.m.where(id) < 0 {
			l = append(l, id)
		}
	}
	return l
}

// holds tells whether the table tells of all pages, keys and spots, and of what there is not, what it must.
func (p *pair) holds(t *testing.T) {
	t.Helper()
	if got, want := p.t.All(), p.m.ids(func(api.Page) bool { return true }); !slices.Equal(got, want) {
		t.Fatalf("All: %v, want %v", got, want)
	}
	for _, r := range p.m.rows {
		p.holdsOf(t, r)
	}
	for _, id := range p.strangers() {
		if g, e := p.t.Get(id); g != (api.Page{}) || e != 2 {
			t.Fatalf("Get(%d): %v, %d", id, g, e)
		}
		p.holdsAt(t, api.PlaceNone, id)
		p.holdsAt(t, 3, id)
	}
	for n := range 8 {
		p.holdsKey(t, api.Key{File: n % 4, Index: n / 2})
		p.holdsKey(t, api.Key{File: -1, Index: n})
		p.holdsAt(t, api.PlaceNone, n)
		p.holdsAt(t, api.PlaceFrame, n)
		p.holdsAt(t, api.PlaceSlot, n)
	}
	for _, o := range owners {
		p.holdsOwner(t, o)
	}
}

// holdsOf tells that of one page, of its key and spot, and of those beside them.
func (p *pair) holdsOf(t *testing.T, r row) {
	t.Helper()
	if g, e := p.t.Get(r.id); g != r.page || e != 0 {
		t.Fatalf("Get(%d): %v, %d, want %v", r.id, g, e, r.page)
	}
	k := r.page.Key
	p.holdsKey(t, k)
	p.holdsKey(t, api.Key{File: k.Index, Index: k.File})
	p.holdsKey(t, api.Key{File: k.File, Index: k.Index + 1})
	p.holdsKey(t, api.Key{File: k.File + 1, Index: k.Index})
	for place := api.Place(-1); place < 4; place++ {
		p.holdsAt(t, place, r.page.At)
		p.holdsAt(t, place, r.page.At+1)
		p.holdsAt(t, place, -1)
	}
	p.holdsOwner(t, r.page.Owner)
	p.holdsOwner(t, r.page.Owner+1)
}

func (p *pair) holdsKey(t *testing.T, k api.Key) {
	t.Helper()
	if got, want := p.t.Of(k), p.m.of(k); got != want {
		t.Fatalf("Of(%v): %d, want %d", k, got, want)
	}
}

func (p *pair) holdsAt(t *testing.T, place api.Place, at int) {
	t.Helper()
	if got, want := p.t.At(place, at), p.m.at(place, at); got != want {
		t.Fatalf("At(%d, %d): %d, want %d", place, at, got, want)
	}
}

func (p *pair) holdsOwner(t *testing.T, owner int) {
	t.Helper()
	want := p.m.ids(func(g api.Page) bool { return g.Owner == owner })
	if got := p.t.Those(owner); !slices.Equal(got, want) {
		t.Fatalf("Those(%d): %v, want %v", owner, got, want)
	}
}

// copied is a table's own fields, so that what a call did to them can be seen.
func (p *pair) copied() *Table {
	return &Table{p.t.made, maps.Clone(p.t.pages), maps.Clone(p.t.files), maps.Clone(p.t.spots)}
}

// checked holds what a call answered against what it must, and what the table tells then; where the call failed, nothing in it may be another than ahead.
func (p *pair) checked(t *testing.T, was *Table, n, wantN int, e, wantE api.Errno) {
	t.Helper()
	if n != wantN || e != wantE {
		t.Fatalf("%d, %d, want %d, %d", n, e, wantN, wantE)
	}
	if e != 0 && !same(was, p.t) {
		t.Fatalf("it failed by %d, and changed the table", e)
	}
	p.holds(t)
}

func same(a, b *Table) bool {
	return a.made == b.made && maps.Equal(a.pages, b.pages) && maps.Equal(a.files, b.files) && maps.Equal(a.spots, b.spots)
}

// Each of these does the call, and holds its answer against what it must be.
func (p *pair) make(t *testing.T, key api.Key, owner int) (int, api.Errno) {
	t.Helper()
	was := p.copied()
	want, wantE := p.m.make(key, owner)
	id, e := p.t.Make(key, owner)
	p.checked(t, was, id, want, e, wantE)
	return id, e
}

func (p *pair) put(t *testing.T, id int, place api.Place, at int) api.Errno {
	t.Helper()
	was := p.copied()
	want := p.m.put(id, place, at)
	e := p.t.Put(id, place, at)
	p.checked(t, was, 0, 0, e, want)
	return e
}

func (p *pair) refer(t *testing.T, id, n int) (int, api.Errno) {
	t.Helper()
	was := p.copied()
	want, wantE := p.m.refer(id, n)
	k, e := p.t.Refer(id, n)
	p.checked(t, was, k, want, e, wantE)
	return k, e
}

func (p *pair) drop(t *testing.T, id int) api.Errno {
	t.Helper()
	was := p.copied()
	want := p.m.drop(id)
	e := p.t.Drop(id)
	p.checked(t, was, 0, 0, e, want)
	return e
}

func (p *pair) own(t *testing.T, id, owner int) api.Errno {
	t.Helper()
	was := p.copied()
	want := p.m.own(id, owner)
	e := p.t.Own(id, owner)
	p.checked(t, was, 0, 0, e, want)
	return e
}

func (p *pair) mark(t *testing.T, id int, dirty bool) api.Errno {
	t.Helper()
	was := p.copied()
	want := p.m.mark(id, dirty)
	e := p.t.Mark(id, dirty)
	p.checked(t, was, 0, 0, e, want)
	return e
}

// want holds an error against the one that the chapter asks for, beside what the list says of it.
func want(t *testing.T, e, want api.Errno) {
	t.Helper()
	if e != want {
		t.Fatalf("error %d, want %d", e, want)
	}
}

// made makes a page that must be made, with that id.
func (p *pair) made(t *testing.T, key api.Key, owner, wantID int) {
	t.Helper()
	id, e := p.make(t, key, owner)
	if id != wantID || e != api.OK {
		t.Fatalf("Make(%v, %d): %d, %d, want %d", key, owner, id, e, wantID)
	}
}

// three is a table with a page of its own, one of file 1, and one of file 2, with ids 0 to 2; the second one is somewhere, with some Refs.
func three(t *testing.T) *pair {
	t.Helper()
	p := start()
	p.made(t, api.Key{File: -1}, 3, 0)
	p.made(t, api.Key{File: 1, Index: 2}, 3, 1)
	p.made(t, api.Key{File: 2, Index: 1}, 4, 2)
	want(t, p.put(t, 1, api.PlaceFrame, 5), api.OK)
	if n, e := p.refer(t, 1, 2); n != 2 || e != api.OK {
		t.Fatal(n, e)
	}
	return p
}

// steps is numbers that look mixed, the same ones at each run.
func steps(x uint64) func(n int) int {
	return func(n int) int {
		x = x*6364136223846793005 + 1442695040888963407
		return int((x ^ x>>29) >> 8 % uint64(n))
	}
}

// The chapter's example.
func TestExample(t *testing.T) {
	x := New()
	k := api.Key{File: 1, Index: 2}
	if id, e := x.Make(k, 0); id != 0 || e != api.OK {
		t.Error(id, e)
	}
	if id := x.Of(k); id != 0 {
		t.Error(id)
	}
	if e := x.Put(0, api.PlaceFrame, 5); e != api.OK {
		t.Error(e)
	}
	if id := x.At(api.PlaceFrame, 5); id != 0 {
		t.Error(id)
	}
}

func TestNew(t *testing.T) {
	p := start()
	p.holds(t)
	if l := p.t.All(); len(l) != 0 {
		t.Error(l)
	}
	for _, o := range owners {
		if l := p.t.Those(o); len(l) != 0 {
			t.Error(o, l)
		}
	}
	for _, id := range p.strangers() {
		eachCallOfNone(t, p, id)
	}
}

// eachCallOfNone tells that no call finds an id that there is not, with whatever beside it.
func eachCallOfNone(t *testing.T, p *pair, id int) {
	t.Helper()
	if g, e := p.t.Get(id); g != (api.Page{}) || e != api.ErrNone {
		t.Fatalf("Get(%d): %v, %d", id, g, e)
	}
	want(t, p.drop(t, id), api.ErrNone)
	want(t, p.own(t, id, 1), api.ErrNone)
	want(t, p.mark(t, id, true), api.ErrNone)
	want(t, p.mark(t, id, false), api.ErrNone)
	// Also with what would be ErrArg, or ErrBusy, of one that there is.
	for _, place := range []api.Place{-1, 0, 1, 2, 3} {
		for _, at := range []int{math.MinInt, -1, 0, 5, math.MaxInt} {
			want(t, p.put(t, id, place, at), api.ErrNone)
		}
	}
	for _, n := range []int{math.MinInt, -1001, -1, 0, 1, 1001, math.MaxInt} {
		if k, e := p.refer(t, id, n); k != 0 || e != api.ErrNone {
			t.Fatalf("Refer(%d, %d): %d, %d", id, n, k, e)
		}
	}
}

// An id is how many were made ahead, and a page is as the chapter says at first, whatever its owner.
func TestMake(t *testing.T) {
	p := start()
	n := 0
	for _, f := range files {
		for _, i := range indices {
			owner := owners[n%len(owners)]
			p.made(t, api.Key{File: f, Index: i}, owner, n)
			if g, e := p.t.Get(n); e != api.OK || g != (api.Page{Key: api.Key{File: f, Index: i}, Owner: owner}) {
				t.Fatal(g, e)
			}
			if id := p.t.Of(api.Key{File: f, Index: i}); id != n {
				t.Fatal(id, n)
			}
			n++
		}
	}
	for _, f := range noFiles {
		for _, i := range indices {
			owner := owners[n%len(owners)]
			p.made(t, api.Key{File: f, Index: i}, owner, n)
			if g, e := p.t.Get(n); e != api.OK || g != (api.Page{Key: api.Key{File: -1, Index: n}, Owner: owner}) {
				t.Fatal(g, e)
			}
			n++
		}
	}
	// Each of them a second time: a file's page is there once, and one of its own is always another one.
	for _, f := range files {
		for _, i := range indices {
			if id, e := p.make(t, api.Key{File: f, Index: i}, 9); id != -1 || e != api.ErrBusy {
				t.Fatal(f, i, id, e)
			}
		}
	}
	for _, f := range noFiles {
		p.made(t, api.Key{File: f}, 9, n)
		n++
	}
}

// With each owner, and beside each of them at the same key.
func TestMakeOwners(t *testing.T) {
	p := start()
	for i, o := range owners {
		p.made(t, api.Key{File: -1}, o, 2*i)
		p.made(t, api.Key{File: 7, Index: i}, o, 2*i+1)
		if l := p.t.Those(o); !slices.Equal(l, []int{2 * i, 2*i + 1}) {
			t.Fatal(o, l)
		}
		for _, again := range owners {
			if id, e := p.make(t, api.Key{File: 7, Index: i}, again); id != -1 || e != api.ErrBusy {
				t.Fatal(again, id, e)
			}
		}
	}
}

// A Make that was refused takes no id.
func TestMakeRefusedTakesNoID(t *testing.T) {
	p := start()
	k := api.Key{File: 0, Index: 0}
	p.made(t, k, 1, 0)
	for range 5 {
		if id, e := p.make(t, k, 2); id != -1 || e != api.ErrBusy {
			t.Fatal(id, e)
		}
	}
	p.made(t, api.Key{File: 0, Index: 1}, 1, 1)
}

// Behind a Drop the same key is free again, and the id is another one.
func TestMakeBehindDrop(t *testing.T) {
	p := start()
	k := api.Key{File: 1, Index: 2}
	for n := range 6 {
		p.made(t, k, n, n)
		if id := p.t.Of(k); id != n {
			t.Fatal(id)
		}
		want(t, p.drop(t, n), api.OK)
		if id := p.t.Of(k); id != -1 {
			t.Fatal(id)
		}
	}
	p.made(t, api.Key{File: -3, Index: 9}, 1, 6)
	want(t, p.drop(t, 6), api.OK)
	p.made(t, api.Key{File: -3, Index: 9}, 1, 7)
	if g, _ := p.t.Get(7); g.Key != (api.Key{File: -1, Index: 7}) {
		t.Fatal(g)
	}
	if l := p.t.All(); !slices.Equal(l, []int{7}) {
		t.Fatal(l)
	}
}

// Of finds a page of a file alone, also where a page of its own has that key.
func TestOf(t *testing.T) {
	p := start()
	for n := range 4 {
		p.made(t, api.Key{File: -1, Index: n}, 1, n)
	}
	p.made(t, api.Key{File: 3, Index: 0}, 1, 4)
	for _, f := range noFiles {
		for n := range 6 {
			if id := p.t.Of(api.Key{File: f, Index: n}); id != -1 {
				t.Fatal(f, n, id)
			}
		}
	}
	for _, f := range files {
		for _, i := range indices {
			if id := p.t.Of(api.Key{File: f, Index: i}); id != -1 {
				t.Fatal(f, i, id)
			}
		}
	}
	if id := p.t.Of(api.Key{File: 3}); id != 4 {
		t.Fatal(id)
	}
	if id := p.t.Of(api.Key{File: 0, Index: 3}); id != -1 {
		t.Fatal(id)
	}
}

// Where a page is doesn't say what it is of.
func TestOfAPageThatMoves(t *testing.T) {
	p := start()
	k := api.Key{File: 0, Index: 0}
	p.made(t, k, 1, 0)
	for _, place := range []api.Place{api.PlaceFrame, api.PlaceSlot, api.PlaceNone} {
		want(t, p.put(t, 0, place, 0), api.OK)
		if id := p.t.Of(k); id != 0 {
			t.Fatal(place, id)
		}
		if g, _ := p.t.Get(0); g.Key != k {
			t.Fatal(place, g)
		}
	}
}

func TestAt(t *testing.T) {
	p := start()
	n := 0
	for _, place := range somewhere {
		for _, at := range spotsAt {
			p.made(t, api.Key{File: -1}, 1, n)
			want(t, p.put(t, n, place, at), api.OK)
			if id := p.t.At(place, at); id != n {
				t.Fatal(place, at, id)
			}
			n++
		}
	}
	for n, place := range somewhere {
		for i, at := range spotsAt {
			if id := p.t.At(place, at); id != n*len(spotsAt)+i {
				t.Fatal(place, at, id)
			}
			for _, other := range slices.Concat(nowhere, []api.Place{api.PlaceNone}) {
				p.holdsAt(t, other, at)
				if id := p.t.At(other, at); id != -1 {
					t.Fatal(other, at, id)
				}
			}
		}
		for _, at := range noSpotsAt {
			if id := p.t.At(place, at); id != -1 {
				t.Fatal(place, at, id)
			}
		}
	}
}

// Many that are nowhere are at no one place.
func TestAtNone(t *testing.T) {
	p := start()
	for n := range 5 {
		p.made(t, api.Key{File: n - 2, Index: n}, 1, n)
	}
	for n := range 5 {
		want(t, p.put(t, n, api.PlaceNone, 0), api.OK)
	}
	for _, at := range slices.Concat(spotsAt, noSpotsAt) {
		if id := p.t.At(api.PlaceNone, at); id != -1 {
			t.Fatal(at, id)
		}
	}
}

// Where a page was, and is no more, there is none; and another one may be there.
func TestAtWherePageWas(t *testing.T) {
	for _, from := range somewhere {
		for _, to := range []api.Place{api.PlaceNone, api.PlaceFrame, api.PlaceSlot} {
			for _, at := range spotsAt {
				leaves(t, from, at, to)
			}
		}
	}
}

// leaves tells that of a page which goes from a spot to a place.
func leaves(t *testing.T, from api.Place, at int, to api.Place) {
	t.Helper()
	p := start()
	p.made(t, api.Key{File: -1}, 1, 0)
	p.made(t, api.Key{File: 1}, 1, 1)
	next := 7
	if to == api.PlaceNone {
		next = 0
	}
	want(t, p.put(t, 0, from, at), api.OK)
	want(t, p.put(t, 0, to, next), api.OK)
	if id := p.t.At(from, at); id != -1 {
		t.Fatal(from, to, at, id)
	}
	want(t, p.put(t, 1, from, at), api.OK)
	if id := p.t.At(from, at); id != 1 {
		t.Fatal(from, to, at, id)
	}
}

func TestPut(t *testing.T) {
	p := three(t)
	for _, place := range somewhere {
		for _, at := range spotsAt {
			if place == api.PlaceFrame && at == 5 {
				continue
			}
			want(t, p.put(t, 0, place, at), api.OK)
			if g, _ := p.t.Get(0); g.Place != place || g.At != at {
				t.Fatal(g)
			}
			// To where it is already.
			want(t, p.put(t, 0, place, at), api.OK)
			if id := p.t.At(place, at); id != 0 {
				t.Fatal(place, at, id)
			}
		}
	}
	want(t, p.put(t, 0, api.PlaceNone, 0), api.OK)
	want(t, p.put(t, 0, api.PlaceNone, 0), api.OK)
	if g, _ := p.t.Get(0); g != (api.Page{Key: api.Key{File: -1}, Owner: 3}) {
		t.Fatal(g)
	}
}

// A page that is put elsewhere at the same at leaves the one place for the other.
func TestPutOtherPlaceSameAt(t *testing.T) {
	p := three(t)
	want(t, p.put(t, 0, api.PlaceSlot, 5), api.OK)
	if f, s := p.t.At(api.PlaceFrame, 5), p.t.At(api.PlaceSlot, 5); f != 1 || s != 0 {
		t.Fatal(f, s)
	}
	want(t, p.put(t, 0, api.PlaceFrame, 5), api.ErrBusy)
	want(t, p.put(t, 1, api.PlaceSlot, 5), api.ErrBusy)
	want(t, p.put(t, 0, api.PlaceNone, 0), api.OK)
	want(t, p.put(t, 1, api.PlaceSlot, 5), api.OK)
	want(t, p.put(t, 0, api.PlaceFrame, 5), api.OK)
	if f, s := p.t.At(api.PlaceFrame, 5), p.t.At(api.PlaceSlot, 5); f != 0 || s != 1 {
		t.Fatal(f, s)
	}
}

// What may not be is ErrArg of a page that is nowhere, and of one that is somewhere.
func TestPutWrong(t *testing.T) {
	for id := range 3 {
		p := three(t)
		for _, place := range nowhere {
			for _, at := range slices.Concat(spotsAt, noSpotsAt) {
				want(t, p.put(t, id, place, at), api.ErrArg)
			}
		}
		for _, at := range noSpotsAt {
			for _, place := range somewhere {
				want(t, p.put(t, id, place, at), api.ErrArg)
			}
		}
		for _, at := range slices.Concat(spotsAt[1:], noSpotsAt) {
			want(t, p.put(t, id, api.PlaceNone, at), api.ErrArg)
		}
	}
}

// Where one page is no other one is.
func TestPutBusy(t *testing.T) {
	for _, place := range somewhere {
		for _, at := range spotsAt {
			p := start()
			p.made(t, api.Key{File: -1}, 1, 0)
			p.made(t, api.Key{File: 1}, 1, 1)
			want(t, p.put(t, 0, place, at), api.OK)
			want(t, p.put(t, 1, place, at), api.ErrBusy)
			// One that is somewhere else stays there.
			want(t, p.put(t, 1, 3-place, at), api.OK)
			want(t, p.put(t, 1, place, at), api.ErrBusy)
			if g, _ := p.t.Get(1); g.Place != 3-place || g.At != at || p.t.At(3-place, at) != 1 {
				t.Fatal(g)
			}
			want(t, p.put(t, 0, api.PlaceNone, 0), api.OK)
			want(t, p.put(t, 1, place, at), api.OK)
		}
	}
}

// Two pages change their spots by way of a third one.
func TestPutRound(t *testing.T) {
	p := start()
	for n := range 2 {
		p.made(t, api.Key{File: -1}, 1, n)
		want(t, p.put(t, n, api.PlaceFrame, n), api.OK)
	}
	for range 4 {
		a, b := p.t.At(api.PlaceFrame, 0), p.t.At(api.PlaceFrame, 1)
		want(t, p.put(t, a, api.PlaceSlot, 1), api.OK)
		want(t, p.put(t, b, api.PlaceFrame, 0), api.OK)
		want(t, p.put(t, a, api.PlaceFrame, 1), api.OK)
		if p.t.At(api.PlaceFrame, 0) != b || p.t.At(api.PlaceFrame, 1) != a || p.t.At(api.PlaceSlot, 1) != -1 {
			t.Fatal(a, b)
		}
	}
}

func TestRefer(t *testing.T) {
	p := three(t)
	for _, c := range []struct {
		n, want int
		e       api.Errno
	}{
		{-1, 0, api.ErrArg},
		{0, 0, api.OK},
		{1, 1, api.OK},
		{-1, 0, api.OK},
		{1001, 0, api.ErrArg},
		{1000, 1000, api.OK},
		{-1001, 0, api.ErrArg},
		{1, 1001, api.OK},
		{-1001, 0, api.ErrArg},
		{0, 1001, api.OK},
		{-1000, 1, api.OK},
		{-2, 0, api.ErrArg},
		{-1000, 0, api.ErrArg},
		{0, 1, api.OK},
		{-1, 0, api.OK},
		{-1, 0, api.ErrArg},
		{999, 999, api.OK},
		{-1000, 0, api.ErrArg},
		{-999, 0, api.OK},
		{1000, 1000, api.OK},
		{1000, 2000, api.OK},
		{1000, 3000, api.OK},
		{1001, 0, api.ErrArg},
		{-1001, 0, api.ErrArg},
		{-1000, 2000, api.OK},
		{-1000, 1000, api.OK},
		{-1000, 0, api.OK},
		{-1000, 0, api.ErrArg},
		{math.MaxInt, 0, api.ErrArg},
		{math.MinInt, 0, api.ErrArg},
		{-1 << 32, 0, api.ErrArg},
		{1 << 32, 0, api.ErrArg},
		{-1 << 62, 0, api.ErrArg},
		{1 << 62, 0, api.ErrArg},
	} {
		if n, e := p.refer(t, 0, c.n); n != c.want || e != c.e {
			t.Fatalf("Refer(0, %d): %d, %d, want %d, %d", c.n, n, e, c.want, c.e)
		}
	}
}

// From each number that may be, also by what is beyond the ends and would, going round, be right.
func TestReferFromEach(t *testing.T) {
	for _, from := range []int{0, 1, 2, 500, 999, 1000} {
		for _, n := range slices.Concat(ends, []int{-1002, -1001, -1000, -999, -501, -500, -3, -2, -1, 0, 1, 999, 1000, 1001, 1002}) {
			p := start()
			p.made(t, api.Key{File: 1}, 1, 0)
			if is, e := p.refer(t, 0, from); is != from || e != api.OK {
				t.Fatal(from, is, e)
			}
			is, e := p.refer(t, 0, n)
			if n >= -1000 && n <= 1000 && from+n >= 0 {
				if is != from+n || e != api.OK {
					t.Fatal(from, n, is, e)
				}
			} else if is != 0 || e != api.ErrArg {
				t.Fatal(from, n, is, e)
			}
		}
	}
}

func TestDrop(t *testing.T) {
	p := three(t)
	// It is somewhere, and has Refs; then it has Refs alone; then neither.
	want(t, p.drop(t, 1), api.ErrBusy)
	want(t, p.put(t, 1, api.PlaceNone, 0), api.OK)
	want(t, p.drop(t, 1), api.ErrBusy)
	p.refer(t, 1, -1)
	want(t, p.drop(t, 1), api.ErrBusy)
	p.refer(t, 1, -1)
	want(t, p.drop(t, 1), api.OK)
	want(t, p.drop(t, 1), api.ErrNone)
	eachCallOfNone(t, p, 1)
	if l := p.t.All(); !slices.Equal(l, []int{0, 2}) {
		t.Fatal(l)
	}
	// It is somewhere alone.
	for _, place := range somewhere {
		for _, at := range spotsAt {
			want(t, p.put(t, 2, place, at), api.OK)
			want(t, p.drop(t, 2), api.ErrBusy)
		}
	}
	want(t, p.put(t, 2, api.PlaceNone, 0), api.OK)
	want(t, p.drop(t, 2), api.OK)
	// An owner, and being dirty, hold none back.
	want(t, p.mark(t, 0, true), api.OK)
	want(t, p.own(t, 0, 63), api.OK)
	want(t, p.drop(t, 0), api.OK)
	for id := range 4 {
		eachCallOfNone(t, p, id)
	}
	p.made(t, api.Key{File: 1, Index: 2}, 5, 3)
	if g, e := p.t.Get(3); e != api.OK || g != (api.Page{Key: api.Key{File: 1, Index: 2}, Owner: 5}) {
		t.Fatal(g, e)
	}
}

// One that goes leaves the others as they are, also one that is where it was.
func TestDropLeavesOthers(t *testing.T) {
	p := three(t)
	want(t, p.put(t, 0, api.PlaceSlot, 8), api.OK)
	want(t, p.put(t, 0, api.PlaceNone, 0), api.OK)
	want(t, p.put(t, 2, api.PlaceSlot, 8), api.OK)
	want(t, p.drop(t, 0), api.OK)
	if id := p.t.At(api.PlaceSlot, 8); id != 2 {
		t.Fatal(id)
	}
	// A page of its own whose id is a file's page's index doesn't take that one along.
	p.made(t, api.Key{File: 0, Index: 4}, 1, 3)
	p.made(t, api.Key{File: -1, Index: 0}, 1, 4)
	want(t, p.drop(t, 4), api.OK)
	if id := p.t.Of(api.Key{File: 0, Index: 4}); id != 3 {
		t.Fatal(id)
	}
}

// Own, Mark and Refer change one field of one page, and no other one.
func TestOneField(t *testing.T) {
	for id := range 3 {
		for _, o := range owners {
			p := three(t)
			changes(t, p, id, func(g *api.Page) { g.Owner = o }, func() api.Errno { return p.own(t, id, o) })
		}
		for _, dirty := range []bool{true, true, false, false, true} {
			p := three(t)
			changes(t, p, id, func(g *api.Page) { g.Dirty = dirty }, func() api.Errno { return p.mark(t, id, dirty) })
			changes(t, p, id, func(g *api.Page) { g.Dirty = !dirty }, func() api.Errno { return p.mark(t, id, !dirty) })
		}
		for _, n := range []int{0, 1, 1000} {
			p := three(t)
			changes(t, p, id, func(g *api.Page) { g.Refs += n }, func() api.Errno {
				_, e := p.refer(t, id, n)
				return e
			})
		}
		p := three(t)
		changes(t, p, id, func(g *api.Page) { g.Place, g.At = api.PlaceSlot, 9 }, func() api.Errno { return p.put(t, id, api.PlaceSlot, 9) })
	}
}

// changes tells that a call changes just that of just that page.
func changes(t *testing.T, p *pair, id int, how func(g *api.Page), call func() api.Errno) {
	t.Helper()
	var want [3]api.Page
	for i := range want {
		want[i], _ = p.t.Get(i)
	}
	how(&want[id])
	if e := call(); e != api.OK {
		t.Fatal(e)
	}
	for i := range want {
		if g, e := p.t.Get(i); g != want[i] || e != api.OK {
			t.Fatalf("%d is %v, want %v, %d", i, g, want[i], e)
		}
	}
}

// Each call at an id that there is not finds none, and changes nothing.
func TestNoSuchPage(t *testing.T) {
	p := three(t)
	for _, id := range p.strangers() {
		eachCallOfNone(t, p, id)
	}
	if !slices.Contains(p.strangers(), 3) || !slices.Contains(p.strangers(), -1) {
		t.Fatal(p.strangers())
	}
}

// ErrNone comes ahead of ErrArg, and that ahead of ErrBusy.
func TestErrorsInOrder(t *testing.T) {
	p := three(t)
	want(t, p.put(t, 3, 7, -1), api.ErrNone)
	want(t, p.put(t, 3, api.PlaceFrame, 5), api.ErrNone)
	want(t, p.put(t, 0, 7, 5), api.ErrArg)
	want(t, p.put(t, 0, api.PlaceFrame, -5), api.ErrArg)
	want(t, p.put(t, 0, api.PlaceFrame, 5), api.ErrBusy)
	if n, e := p.refer(t, -1, 2000); n != 0 || e != api.ErrNone {
		t.Fatal(n, e)
	}
	want(t, p.drop(t, 1), api.ErrBusy)
	want(t, p.drop(t, 4), api.ErrNone)
}

func TestThose(t *testing.T) {
	p := start()
	for n := range 40 {
		p.made(t, api.Key{File: n%2 - 1, Index: n}, n%3, n)
	}
	if l := p.t.Those(1); !slices.Equal(l, []int{1, 4, 7, 10, 13, 16, 19, 22, 25, 28, 31, 34, 37}) {
		t.Fatal(l)
	}
	for n := range 40 {
		want(t, p.own(t, 39-n, 9), api.OK)
		if n == 20 {
			if l := p.t.Those(9); !slices.Equal(l, []int{19, 20, 21, 22, 23, 24, 25, 26, 27, 28, 29, 30, 31, 32, 33, 34, 35, 36, 37, 38, 39}) {
				t.Fatal(l)
			}
		}
	}
	for o := range 3 {
		if l := p.t.Those(o); len(l) != 0 {
			t.Fatal(o, l)
		}
	}
	if a, o := p.t.All(), p.t.Those(9); !slices.Equal(a, o) || len(a) != 40 {
		t.Fatal(a, o)
	}
	want(t, p.drop(t, 7), api.OK)
	if l := p.t.Those(9); slices.Contains(l, 7) || len(l) != 39 {
		t.Fatal(l)
	}
}

// What is answered is the caller's: a table doesn't see what becomes of it, and two lists share nothing.
func TestAnswersAreOwn(t *testing.T) {
	p := three(t)
	for _, list := range []func() []int{p.t.All, func() []int { return p.t.Those(3) }} {
		a, b := list(), list()
		was := slices.Clone(a)
		for i := range a {
			a[i] = -7
		}
		a = append(a, 5, 6, 7)
		if len(was) < 2 || !slices.Equal(b, was) || !slices.Equal(list(), was) {
			t.Fatal(a, b, was)
		}
		p.holds(t)
		// A list stays as it was, whatever comes.
		p.make(t, api.Key{File: -1}, 3)
		if !slices.Equal(b, was) {
			t.Fatal(b, was)
		}
	}
	g, _ := p.t.Get(1)
	g.Refs, g.Owner, g.Key.Index = 90, 91, 92
	p.holds(t)
	was, _ := p.t.Get(1)
	p.refer(t, 1, 1)
	if was.Refs != 2 {
		t.Fatal(was)
	}
}

// Two tables know nothing of each other.
func TestTwoTables(t *testing.T) {
	a, b := start(), start()
	k := api.Key{File: 1, Index: 2}
	a.made(t, k, 3, 0)
	a.put(t, 0, api.PlaceFrame, 5)
	b.holds(t)
	eachCallOfNone(t, b, 0)
	if b.t.Of(k) != -1 || b.t.At(api.PlaceFrame, 5) != -1 || len(b.t.Those(3)) != 0 {
		t.Fatal(b.t.All())
	}
	b.made(t, api.Key{File: -1}, 4, 0)
	b.made(t, k, 4, 1)
	b.put(t, 1, api.PlaceFrame, 5)
	b.mark(t, 1, true)
	a.holds(t)
	a.put(t, 0, api.PlaceNone, 0)
	a.drop(t, 0)
	b.holds(t)
	if c := New(); c.made != 0 || len(c.All()) != 0 {
		t.Fatal(c.All())
	}
}

// Many pages, of which each second one goes; what is left rises, and each id was handed out once.
func TestMany(t *testing.T) {
	x := New()
	const many = 5000
	for n := range many {
		if id, e := x.Make(api.Key{File: n%3 - 1, Index: n}, n%7); id != n || e != api.OK {
			t.Fatal(n, id, e)
		}
		if e := x.Put(n, api.Place(1+n%2), n); e != api.OK {
			t.Fatal(n, e)
		}
	}
	for n := 0; n < many; n += 2 {
		if e := x.Put(n, api.PlaceNone, 0); e != api.OK {
			t.Fatal(n, e)
		}
		if e := x.Drop(n); e != api.OK {
			t.Fatal(n, e)
		}
	}
	all := x.All()
	if len(all) != many/2 || len(x.pages) != many/2 || len(x.spots) != many/2 {
		t.Fatal(len(all), len(x.pages), len(x.spots))
	}
	for i, id := range all {
		if id != 2*i+1 || x.At(api.PlaceSlot, id) != id {
			t.Fatal(i, id)
		}
	}
	n := 0
	for o := range 7 {
		l := x.Those(o)
		if !slices.IsSorted(l) || slices.ContainsFunc(l, func(id int) bool { return id%7 != o || id%2 == 0 }) {
			t.Fatal(o, l)
		}
		n += len(l)
	}
	if n != many/2 {
		t.Fatal(n)
	}
	if id, e := x.Make(api.Key{File: 1, Index: 2}, 0); id != many || e != api.OK {
		t.Fatal(id, e)
	}
}

// What went leaves nothing behind.
func TestNothingIsKept(t *testing.T) {
	p := three(t)
	p.put(t, 1, api.PlaceNone, 0)
	p.refer(t, 1, -2)
	for id := range 3 {
		want(t, p.drop(t, id), api.OK)
	}
	if len(p.t.pages) != 0 || len(p.t.files) != 0 || len(p.t.spots) != 0 {
		t.Fatal(p.t)
	}
}

// All calls, mixed, with what may be and what may not.
func TestMixed(t *testing.T) {
	for seed := range uint64(12) {
		next := steps(seed)
		p := start()
		seen := map[int]struct{}{}
		for range 250 {
			oneStep(t, p, next, seen)
			oncePerSpot(t, p)
		}
		if len(seen) != p.m.made {
			t.Fatal(len(seen), p.m.made)
		}
	}
}

func oneStep(t *testing.T, p *pair, next func(n int) int, seen map[int]struct{}) {
	t.Helper()
	id := next(p.m.made+2) - 1
	switch next(8) {
	case 0, 1:
		key := api.Key{File: next(5) - 2, Index: next(3)}
		if made, e := p.make(t, key, next(4)); e == api.OK {
			if _, ok := seen[made]; ok {
				t.Fatal(made, "was handed out already")
			}
			seen[made] = struct{}{}
		}
	case 2, 3:
		p.put(t, id, api.Place(next(5)-1), next(5)-1)
	case 4:
		p.refer(t, id, next(5)-2)
	case 5:
		p.drop(t, id)
	case 6:
		p.own(t, id, next(4))
	case 7:
		p.mark(t, id, next(2) == 0)
	}
}

// oncePerSpot tells by all pages that where one is no other one is, and that a file's page is there once.
func oncePerSpot(t *testing.T, p *pair) {
	t.Helper()
	type where struct {
		place api.Place
		at    int
	}
	spots, keys := map[where]int{}, map[api.Key]int{}
	for _, id := range p.t.All() {
		g, e := p.t.Get(id)
		if e != api.OK || g.Gen != 0 || g.Hot {
			t.Fatal(id, g, e)
		}
		if k, ok := keys[g.Key]; ok {
			t.Fatal(id, k, g.Key)
		}
		keys[g.Key] = id
		if g.Place == api.PlaceNone {
			continue
		}
		if w, ok := spots[where{g.Place, g.At}]; ok {
			t.Fatal(id, w, g)
		}
		spots[where{g.Place, g.At}] = id
	}
}
