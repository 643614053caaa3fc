package counter

import (
	"math"
	"slices"
	"testing"

	"millpond/api"
)

const most = 1 << 40 // the greatest limit, and the greatest amount

// Numbers that no group has.
var strangers = []int{
	math.MinInt, math.MinInt + 1, -1 << 32, -65, -64, -63, -2, -1,
	64, 65, 127, 128, 1 << 31, 1 << 32, 1<<32 + 1, most, 1 << 62, math.MaxInt - 1, math.MaxInt,
}

// Numbers that are neither a limit nor an amount.
var wrongAmounts = []int{
	math.MinInt, math.MinInt + 1, -most - 1, -most, -most + 1, -1 << 32, -2, -1,
	most + 1, most + 2, 2 * most, 1 << 62, math.MaxInt - 1, math.MaxInt,
}

// Limits and amounts at the ends, and beside them.
var edges = []int{0, 1, 2, most/2 - 1, most / 2, most - 1, most}

// change is what was counted once: all of a chain use n more, or, with n below 0, less.
type change struct {
	chain []int
	n     int
}

// told is what a counter must tell, by all that happened to it in its order.
type told struct {
	changes []change
	failed  []int
	limits  map[int]int
}

func (m *told) limit(g int) int {
	if g < 0 || g > 63 {
		return 0
	}
	if n, ok := m.limits[g]; ok {
		return n
	}
	return most
}

// useAndPeak sums up from the beginning.
func (m *told) useAndPeak(g int) (int, int) {
	use, peak := 0, 0
	for _, x := range m.changes {
		if slices.Contains(x.chain, g) {
			use += x.n
			peak = max(peak, use)
		}
	}
	return use, peak
}

func (m *told) use(g int) int {
	use, _ := m.useAndPeak(g)
	return use
}

func (m *told) peak(g int) int {
	_, peak := m.useAndPeak(g)
	return peak
}

func (m *told) fails(g int) int {
	n := 0
	for _, x := range m.failed {
		if x == g {
			n++
		}
	}
	return n
}

func (m *told) setLimit(g, n int) api.Errno {
	if g < 0 || g > 63 || n < 0 || n > most {
		return api.ErrArg
	}
	m.limits[g] = n
	return api.OK
}

// mayAsk tells whether a chain, and an amount, are such as Try and Give take.
func mayAsk(chain []int, n int) bool {
	sorted := slices.Clone(chain)
	slices.Sort(sorted)
	once := len(slices.Compact(slices.Clone(sorted))) == len(sorted)
	groups := len(sorted) == 0 || sorted[0] >= 0 && sorted[len(sorted)-1] <= 63
	return once && groups && n >= 0 && n <= most
}

func (m *told) try(chain []int, n int) (int, api.Errno) {
	if !mayAsk(chain, n) {
		return -1, api.ErrArg
	}
	for _, g := range chain {
		if n > 0 && n > m.limit(g)-m.use(g) {
			m.failed = append(m.failed, g)
			return g, api.ErrLimit
		}
	}
	m.changes = append(m.changes, change{slices.Clone(chain), n})
	return -1, api.OK
}

func (m *told) give(chain []int, n int) api.Errno {
	if !mayAsk(chain, n) {
		return api.ErrArg
	}
	for _, g := range chain {
		if m.use(g) < n {
			return api.ErrNone
		}
	}
	m.changes = append(m.changes, change{slices.Clone(chain), -n})
	return api.OK
}

// pair is a counter, and what it must tell.
type pair struct {
	c *Counter
	m *told
}

func start() *pair { return &pair{New(), &told{limits: map[int]int{}}} }

// holds tells whether the counter tells of all groups, and of numbers that are none's, what it must.
func (p *pair) holds(t *testing.T) {
	t.Helper()
	for g := range 64 {
		p.holdsOf(t, g)
	}
	for _, g := range strangers {
		p.holdsOf(t, g)
		if p.c.Use(g) != 0 || p.c.Limit(g) != 0 || p.c.Failed(g) != 0 || p.c.Peak(g) != 0 {
			t.Fatalf("of %d, which is no group's: %d, %d, %d, %d", g, p.c.Use(g), p.c.Limit(g), p.c.Failed(g), p.c.Peak(g))
		}
	}
}

func (p *pair) holdsOf(t *testing.T, g int) {
	t.Helper()
	use, peak := p.m.useAndPeak(g)
	if got := p.c.Use(g); got != use {
		t.Fatalf("Use(%d): %d, want %d", g, got, use)
	}
	if got := p.c.Peak(g); got != peak {
		t.Fatalf("Peak(%d): %d, want %d", g, got, peak)
	}
	if got, want := p.c.Limit(g), p.m.limit(g); got != want {
		t.Fatalf("Limit(%d): %d, want %d", g, got, want)
	}
	if got, want := p.c.Failed(g), p.m.fails(g); got != want {
		t.Fatalf("Failed(%d): %d, want %d", g, got, want)
	}
}

// setLimit, try and give do the call, and hold its answer against what it must be; what it must have changed is left to holds.
func (p *pair) setLimit(t *testing.T, g, n int) api.Errno {
	t.Helper()
	want := p.m.setLimit(g, n)
	e := p.c.SetLimit(g, n)
	if e != want {
		t.Fatalf("SetLimit(%d, %d): %v, want %v", g, n, e, want)
	}
	return e
}

func (p *pair) try(t *testing.T, chain []int, n int) (int, api.Errno) {
	t.Helper()
	want, wantE := p.m.try(chain, n)
	g, e := p.c.Try(chain, n)
	if g != want || e != wantE {
		t.Fatalf("Try(%v, %d): %d, %v, want %d, %v", chain, n, g, e, want, wantE)
	}
	return g, e
}

func (p *pair) give(t *testing.T, chain []int, n int) api.Errno {
	t.Helper()
	want := p.m.give(chain, n)
	e := p.c.Give(chain, n)
	if e != want {
		t.Fatalf("Give(%v, %d): %v, want %v", chain, n, e, want)
	}
	return e
}

// limits is a SetLimit that must be done.
func limits(t *testing.T, p *pair, g, n int) {
	t.Helper()
	if e := p.setLimit(t, g, n); e != api.OK {
		t.Fatalf("SetLimit(%d, %d): %v", g, n, e)
	}
	p.holds(t)
}

// takes is a Try that must be done.
func takes(t *testing.T, p *pair, n int, chain ...int) {
	t.Helper()
	if g, e := p.try(t, chain, n); g != -1 || e != api.OK {
		t.Fatalf("Try(%v, %d): %d, %v", chain, n, g, e)
	}
	p.holds(t)
}

// fails is a Try for which one must have no room: that one has failed once more then, and else there is all as it was.
func fails(t *testing.T, p *pair, want, n int, chain ...int) {
	t.Helper()
	failed := p.c.Failed(want)
	if g, e := p.try(t, chain, n); g != want || e != api.ErrLimit {
		t.Fatalf("Try(%v, %d): %d, %v, want %d, ErrLimit", chain, n, g, e, want)
	}
	if p.c.Failed(want) != failed+1 {
		t.Fatalf("Try(%v, %d): %d failed %d times, and %d ahead", chain, n, want, p.c.Failed(want), failed)
	}
	p.holds(t)
}

// gives is a Give that must be done.
func gives(t *testing.T, p *pair, n int, chain ...int) {
	t.Helper()
	if e := p.give(t, chain, n); e != api.OK {
		t.Fatalf("Give(%v, %d): %v", chain, n, e)
	}
	p.holds(t)
}

// lacks is a Give of more than one uses.
func lacks(t *testing.T, p *pair, n int, chain ...int) {
	t.Helper()
	if e := p.give(t, chain, n); e != api.ErrNone {
		t.Fatalf("Give(%v, %d): %v, want ErrNone", chain, n, e)
	}
	p.holds(t)
}

// refuses is what neither Try nor Give may take, and that must change nothing.
func refuses(t *testing.T, p *pair, n int, chain ...int) {
	t.Helper()
	if g, e := p.try(t, chain, n); g != -1 || e != api.ErrArg {
		t.Fatalf("Try(%v, %d): %d, %v, want -1, ErrArg", chain, n, g, e)
	}
	if e := p.give(t, chain, n); e != api.ErrArg {
		t.Fatalf("Give(%v, %d): %v, want ErrArg", chain, n, e)
	}
	p.holds(t)
}

// all is the 64 groups, rising.
func all() []int {
	var l []int
	for g := range 64 {
		l = append(l, g)
	}
	return l
}

// steps is numbers that look mixed, the same ones at each run.
func steps(x uint64) func(n int) int {
	return func(n int) int {
		x = x*6364136223846793005 + 1442695040888963407
		return int((x ^ x>>29) >> 8 % uint64(n))
	}
}

// The chapter's example.
func TestExample(t *testing.T) {
	c := New()
	if e := c.SetLimit(1, 3); e != api.OK {
		t.Error(e)
	}
	if g, e := c.Try([]int{2, 1, 0}, 2); g != -1 || e != api.OK {
		t.Error(g, e)
	}
	if g, e := c.Try([]int{2, 1, 0}, 2); g != 1 || e != api.ErrLimit {
		t.Error(g, e)
	}
	for g, want := range []int{2, 2, 2} {
		if c.Use(g) != want || c.Peak(g) != want {
			t.Error(g, c.Use(g), c.Peak(g))
		}
	}
	if c.Failed(0) != 0 || c.Failed(1) != 1 || c.Failed(2) != 0 {
		t.Error(c.Failed(0), c.Failed(1), c.Failed(2))
	}
}

func TestNew(t *testing.T) {
	c := New()
	for g := range 64 {
		if c.Use(g) != 0 || c.Limit(g) != most || c.Failed(g) != 0 || c.Peak(g) != 0 {
			t.Error(g, c.Use(g), c.Limit(g), c.Failed(g), c.Peak(g))
		}
	}
	for _, g := range strangers {
		if c.Use(g) != 0 || c.Limit(g) != 0 || c.Failed(g) != 0 || c.Peak(g) != 0 {
			t.Error(g, c.Use(g), c.Limit(g), c.Failed(g), c.Peak(g))
		}
	}
	start().holds(t)
}

// A number that is no group's tells 0 also where all groups tell something else.
func TestNumbersOfNone(t *testing.T) {
	p := start()
	takes(t, p, 7, all()...)
	for _, g := range []int{0, 1, 62, 63} {
		limits(t, p, g, 7)
		fails(t, p, g, 1, g)
	}
	for _, g := range strangers {
		if p.c.Use(g) != 0 || p.c.Limit(g) != 0 || p.c.Failed(g) != 0 || p.c.Peak(g) != 0 {
			t.Error(g, p.c.Use(g), p.c.Limit(g), p.c.Failed(g), p.c.Peak(g))
		}
	}
}

func TestSetLimit(t *testing.T) {
	p := start()
	for _, g := range []int{0, 1, 31, 62, 63} {
		for _, n := range edges {
			limits(t, p, g, n)
			if p.c.Limit(g) != n {
				t.Errorf("Limit(%d): %d, want %d", g, p.c.Limit(g), n)
			}
		}
		limits(t, p, g, 5+g)
		for _, n := range wrongAmounts {
			if e := p.setLimit(t, g, n); e != api.ErrArg {
				t.Errorf("SetLimit(%d, %d): %v", g, n, e)
			}
			p.holds(t)
		}
	}
	for _, g := range strangers {
		for _, n := range append(slices.Clone(edges), wrongAmounts...) {
			if e := p.setLimit(t, g, n); e != api.ErrArg {
				t.Errorf("SetLimit(%d, %d): %v", g, n, e)
			}
		}
		p.holds(t)
	}
}

// A limit may be below what is used: that stays so, nothing more goes in, and what goes out does not ask for the limit.
func TestLoweredLimit(t *testing.T) {
	for _, g := range []int{0, 1, 62, 63} {
		p := start()
		takes(t, p, 10, 30, g)
		limits(t, p, g, 10)
		fails(t, p, g, 1, 30, g)
		limits(t, p, g, 9)
		fails(t, p, g, 1, 30, g)
		limits(t, p, g, 0)
		fails(t, p, g, most, g, 30)
		fails(t, p, g, 1, g)
		takes(t, p, 0, 30, g)
		if p.c.Use(g) != 10 || p.c.Peak(g) != 10 || p.c.Failed(g) != 4 {
			t.Error(g, p.c.Use(g), p.c.Peak(g), p.c.Failed(g))
		}
		limits(t, p, g, 8)
		gives(t, p, 1, g)
		fails(t, p, g, 1, g) // 9 are used yet
		gives(t, p, 2, g)
		takes(t, p, 1, g)
		fails(t, p, g, 1, g)
		limits(t, p, g, 9)
		takes(t, p, 1, g)
		fails(t, p, g, 1, g)
	}
}

func TestTry(t *testing.T) {
	p := start()
	takes(t, p, 5, 4, 2, 0)
	takes(t, p, 3, 2, 0)
	takes(t, p, 1, 63)
	for g, want := range map[int]int{0: 8, 1: 0, 2: 8, 3: 0, 4: 5, 5: 0, 62: 0, 63: 1} {
		if p.c.Use(g) != want || p.c.Peak(g) != want || p.c.Failed(g) != 0 {
			t.Errorf("%d: %d, %d, %d, want %d", g, p.c.Use(g), p.c.Peak(g), p.c.Failed(g), want)
		}
	}
}

// A use may come to just its limit, whatever that is, by one step or by several.
func TestUpToTheLimit(t *testing.T) {
	for _, limit := range edges {
		for _, g := range []int{0, 1, 62, 63} {
			p := start()
			limits(t, p, g, limit)
			if limit < most {
				fails(t, p, g, limit+1, g)
			}
			fits(t, p, g, limit)
			fails(t, p, g, 1, g)
			fails(t, p, g, most, g)
			if p.c.Use(g) != limit || p.c.Peak(g) != limit {
				t.Error(g, limit, p.c.Use(g), p.c.Peak(g))
			}
			if limit > 0 {
				gives(t, p, 1, g)
				fails(t, p, g, 2, g)
				takes(t, p, 1, g)
				fails(t, p, g, 1, g)
			}
		}
	}
}

// fits lets a group that uses nothing use so much, the last of that by itself.
func fits(t *testing.T, p *pair, g, n int) {
	t.Helper()
	if n == 0 {
		takes(t, p, 0, g)
		return
	}
	takes(t, p, n-1, g)
	fails(t, p, g, 2, g)
	takes(t, p, 1, g)
}

// It is the first in the chain, not the least, nor the one with the least room, that is told; and that one alone has failed.
func TestFirstThatFails(t *testing.T) {
	p := start()
	limits(t, p, 5, 3)
	limits(t, p, 1, 1)
	limits(t, p, 9, 2)
	fails(t, p, 5, 4, 5, 1, 9, 0)
	fails(t, p, 9, 4, 9, 1, 5, 0)
	fails(t, p, 1, 4, 0, 1, 9, 5)
	fails(t, p, 1, 3, 5, 1, 9)
	fails(t, p, 9, 3, 5, 9, 1)
	fails(t, p, 1, 2, 5, 9, 1)
	fails(t, p, 9, 4, 0, 2, 9)
	fails(t, p, 9, 4, 9)
	takes(t, p, 1, 5, 9, 1, 0)
	fails(t, p, 1, 1, 5, 9, 1, 0)
	for g, want := range map[int]int{0: 0, 1: 4, 2: 0, 5: 1, 9: 4} {
		if p.c.Failed(g) != want {
			t.Errorf("Failed(%d): %d, want %d", g, p.c.Failed(g), want)
		}
	}
}

// The one without room may stand anywhere: those ahead of it in the chain have nothing more, either.
func TestFailsAtEachPlace(t *testing.T) {
	for at := range 64 {
		p := start()
		takes(t, p, 3, all()...)
		limits(t, p, at, 3)
		fails(t, p, at, 1, all()...)
		falling := all()
		slices.Reverse(falling)
		fails(t, p, at, 1, falling...)
		if p.c.Failed(at) != 2 {
			t.Error(at, p.c.Failed(at))
		}
	}
}

// With n 0 none fails, and nothing is changed: at its limit, without room from the beginning, and above a limit that was lowered.
func TestNothingMore(t *testing.T) {
	p := start()
	limits(t, p, 1, 0)
	takes(t, p, 4, 2, 3)
	limits(t, p, 2, 4)
	limits(t, p, 3, 1)
	takes(t, p, most, 63)
	for _, chain := range [][]int{nil, {}, {0}, {1}, {2}, {3}, {63}, {3, 2, 1, 0}, {0, 1, 2, 3, 63}, all()} {
		takes(t, p, 0, chain...)
		gives(t, p, 0, chain...)
	}
	for g := range 64 {
		if p.c.Failed(g) != 0 {
			t.Error(g, p.c.Failed(g))
		}
	}
	if p.c.Use(3) != 4 || p.c.Use(1) != 0 || p.c.Use(63) != most {
		t.Error(p.c.Use(3), p.c.Use(1), p.c.Use(63))
	}
}

// The greatest amounts: a use of 2^40, and as much again, which has no room, with a sum that must not go round.
func TestGreatest(t *testing.T) {
	p := start()
	takes(t, p, most, all()...)
	fails(t, p, 0, 1, all()...)
	fails(t, p, 0, most, all()...)
	fails(t, p, 63, most, 63, 0)
	gives(t, p, most-1, 63)
	takes(t, p, most-1, 63)
	fails(t, p, 63, 1, 63)
	gives(t, p, most, all()...)
	takes(t, p, most-1, 62, 63)
	fails(t, p, 62, 2, 62, 63)
	takes(t, p, 1, 62, 63)
	if p.c.Use(62) != most || p.c.Peak(62) != most || p.c.Use(0) != 0 || p.c.Peak(0) != most {
		t.Error(p.c.Use(62), p.c.Peak(62), p.c.Use(0), p.c.Peak(0))
	}
}

func TestGive(t *testing.T) {
	p := start()
	takes(t, p, 5, 4, 2, 0)
	takes(t, p, 3, 2, 0)
	lacks(t, p, 6, 4, 2, 0) // 4, the first, uses 5
	lacks(t, p, 6, 2, 4, 0)
	lacks(t, p, 6, 2, 0, 4)
	lacks(t, p, 1, 4, 2, 0, 63)
	lacks(t, p, most, 0)
	lacks(t, p, most, 2, 4, 0)
	gives(t, p, 5, 4, 2, 0)
	if p.c.Use(4) != 0 || p.c.Use(2) != 3 || p.c.Use(0) != 3 || p.c.Peak(2) != 8 || p.c.Peak(4) != 5 {
		t.Error(p.c.Use(4), p.c.Use(2), p.c.Use(0), p.c.Peak(2), p.c.Peak(4))
	}
	lacks(t, p, 1, 4)
	gives(t, p, 0, 4)
	gives(t, p, 2, 0)
	lacks(t, p, 2, 0, 2)
	lacks(t, p, 2, 2, 0)
	gives(t, p, 1, 2, 0)
	for g := range 64 {
		if p.c.Failed(g) != 0 {
			t.Error("Failed", g, p.c.Failed(g))
		}
	}
}

// The one that uses too little may stand anywhere: nothing is done to those ahead of it, either.
func TestLacksAtEachPlace(t *testing.T) {
	for at := range 64 {
		p := start()
		takes(t, p, 3, all()...)
		gives(t, p, 1, at)
		lacks(t, p, 3, all()...)
		gives(t, p, 2, all()...)
		lacks(t, p, 1, all()...)
		gives(t, p, 1, slices.Concat(all()[:at], all()[at+1:])...)
	}
}

// What is given back need not be what was taken, as long as all use as much.
func TestGiveAlone(t *testing.T) {
	p := start()
	takes(t, p, 4, 3, 2, 1, 0)
	gives(t, p, 4, 3)
	gives(t, p, 1, 0, 2)
	takes(t, p, 2, 3, 0)
	for g, want := range map[int]int{0: 5, 1: 4, 2: 3, 3: 2} {
		if p.c.Use(g) != want {
			t.Errorf("Use(%d): %d, want %d", g, p.c.Use(g), want)
		}
	}
}

// A peak is the most that was used, not what was tried, and never falls.
func TestPeak(t *testing.T) {
	p := start()
	peak := func(want int) {
		t.Helper()
		p.holds(t)
		if p.c.Peak(1) != want {
			t.Fatalf("Peak(1): %d, want %d", p.c.Peak(1), want)
		}
	}
	takes(t, p, 3, 1, 0)
	peak(3)
	takes(t, p, 2, 1, 0)
	peak(5)
	gives(t, p, 4, 1, 0)
	peak(5)
	takes(t, p, 3, 1)
	peak(5)
	limits(t, p, 1, 6)
	fails(t, p, 1, 3, 1)
	peak(5)
	takes(t, p, 2, 1)
	peak(6)
	limits(t, p, 1, 0)
	peak(6)
	gives(t, p, 6, 1)
	peak(6)
	fails(t, p, 1, 1, 1)
	peak(6)
	limits(t, p, 1, most)
	takes(t, p, 6, 1)
	peak(6)
	takes(t, p, 1, 1)
	peak(7)
}

// full is a counter of which each chain that has a group lacks room for 1, and uses too little for 2: what is refused there is refused ahead of that.
func full(t *testing.T) *pair {
	t.Helper()
	p := start()
	takes(t, p, 1, all()...)
	for g := range 64 {
		p.setLimit(t, g, 1)
	}
	p.holds(t)
	return p
}

func TestWrongAmounts(t *testing.T) {
	for _, p := range []*pair{start(), full(t)} {
		for _, n := range wrongAmounts {
			for _, chain := range [][]int{nil, {}, {0}, {63}, {2, 1, 0}, all(), {64}, {-1}, {5, 5}} {
				refuses(t, p, n, chain...)
			}
		}
	}
}

func TestWrongNumbers(t *testing.T) {
	for _, p := range []*pair{start(), full(t)} {
		for _, g := range strangers {
			for _, n := range []int{0, 1, 2, most - 1, most} {
				for _, chain := range [][]int{{g}, {g, 0}, {0, g}, {63, g, 0}, {g, g}, append(all(), g), append([]int{g}, all()...)} {
					refuses(t, p, n, chain...)
				}
			}
		}
	}
}

// A number twice, at each two places of chains of several lengths.
func TestNumbersTwice(t *testing.T) {
	p := full(t)
	for _, length := range []int{2, 3, 5, 64} {
		for last := range length {
			for first := range last {
				chain := all()[:length]
				chain[last] = chain[first]
				for _, n := range []int{0, 1, 2} {
					if g, e := p.try(t, chain, n); g != -1 || e != api.ErrArg {
						t.Fatal(chain, n, g, e)
					}
					if e := p.give(t, chain, n); e != api.ErrArg {
						t.Fatal(chain, n, e)
					}
				}
			}
		}
		p.holds(t)
	}
	for _, chain := range [][]int{{0, 0}, {63, 63}, {0, 1, 0}, {63, 1, 2, 63}, {0, 0, 1}, {1, 0, 0}, {7, 7, 7}} {
		refuses(t, p, 0, chain...)
		refuses(t, p, 1, chain...)
		refuses(t, p, 2, chain...)
	}
}

// Chains of as many groups as there are, in any order; one of more has one twice.
func TestLengths(t *testing.T) {
	p := start()
	for _, chain := range [][]int{nil, {}} {
		for _, n := range edges {
			takes(t, p, n, chain...)
			gives(t, p, n, chain...)
		}
	}
	for g := range 64 {
		takes(t, p, g+1, g)
		if p.c.Use(g) != g+1 {
			t.Error(g, p.c.Use(g))
		}
		gives(t, p, g+1, g)
	}
	falling := all()
	slices.Reverse(falling)
	odd := append(all()[31:], all()[:31]...)
	for _, chain := range [][]int{all(), falling, odd, all()[1:], all()[:63]} {
		takes(t, p, 2, chain...)
		gives(t, p, 1, chain...)
		for _, g := range []int{0, 1, 30, 63} {
			refuses(t, p, 1, append(slices.Clone(chain), g, 63-g, 0)...)
			refuses(t, p, 1, append([]int{g, 63 - g, g}, chain...)...)
		}
	}
	long := make([]int, 1<<20)
	for i := range long {
		long[i] = i % 64
	}
	for _, chain := range [][]int{long[:65], long[:128], long} {
		for _, n := range []int{0, 1} {
			if g, e := p.try(t, chain, n); g != -1 || e != api.ErrArg {
				t.Errorf("Try of %d: %d, %v", len(chain), g, e)
			}
			if e := p.give(t, chain, n); e != api.ErrArg {
				t.Errorf("Give of %d: %v", len(chain), e)
			}
		}
	}
	p.holds(t)
}

// An argument is not changed, nor what stands behind it in its memory; and what is written to it later is seen nowhere.
func TestArguments(t *testing.T) {
	memory := []int{5, 9, 3, 0, 77, 78, 79}
	was := slices.Clone(memory)
	chain := memory[:4]
	p := start()
	limits(t, p, 3, 6)
	for _, n := range []int{4, 4, 0, -1, 2, 1, most, most + 1} {
		p.try(t, chain, n)
		p.give(t, chain, n/2)
		p.holds(t)
		if !slices.Equal(memory, was) {
			t.Fatalf("with %d: %v, ahead %v", n, memory, was)
		}
	}
	takes(t, p, 1, 5, 9)
	p.try(t, chain[:2], 1)
	for i := range memory {
		memory[i] = 40 + i
	}
	p.holds(t)
}

// Two counters know nothing of each other, and one that is made later knows nothing of them.
func TestApart(t *testing.T) {
	p, q := start(), start()
	limits(t, p, 2, 4)
	takes(t, p, 4, 2, 1, 0)
	fails(t, p, 2, 1, 2, 1, 0)
	q.holds(t)
	takes(t, q, 9, 2, 1)
	limits(t, q, 1, 9)
	fails(t, q, 1, 1, 2, 1)
	p.holds(t)
	gives(t, p, 4, 2, 1, 0)
	lacks(t, p, 1, 2)
	q.holds(t)
	gives(t, q, 9, 2, 1)
	p.holds(t)
	start().holds(t)
}

// small is all steps with two groups, and a number of none, that are of 0, 1 or 2.
func small() []func(t *testing.T, p *pair) {
	var l []func(t *testing.T, p *pair)
	for n := range 3 {
		for _, chain := range [][]int{{0}, {1}, {0, 1}, {1, 0}, {1, 1}, {1, 64}} {
			l = append(l, func(t *testing.T, p *pair) { p.try(t, chain, n) })
			l = append(l, func(t *testing.T, p *pair) { p.give(t, chain, n) })
		}
		for g := range 2 {
			l = append(l, func(t *testing.T, p *pair) { p.setLimit(t, g, n) })
		}
	}
	return l
}

// All ways of three small steps, from what is used, and limited, already.
func TestShortWays(t *testing.T) {
	moves := small()
	for _, first := range moves {
		for _, second := range moves {
			for _, third := range moves {
				p := start()
				p.setLimit(t, 1, 2)
				p.try(t, []int{0, 1}, 1)
				first(t, p)
				second(t, p)
				third(t, p)
				for g := -1; g < 3; g++ {
					p.holdsOf(t, g)
				}
			}
		}
	}
}

// mixed is a chain, mostly one that may be: some groups, each once, in any order.
func mixed(mix func(int) int) []int {
	chain := all()
	for i := range chain {
		k := i + mix(64-i)
		chain[i], chain[k] = chain[k], chain[i]
	}
	chain = chain[:mix(10)]
	if len(chain) > 1 && mix(8) == 0 {
		chain[mix(len(chain))] = mix(70) - 3
	}
	return chain
}

// What the chapter lists under 'What holds', along long ways.
func TestLongWays(t *testing.T) {
	amounts := []int{0, 1, 2, 3, 5, 8, most - 5, most, most + 1, -1}
	for seed := range 40 {
		mix := steps(uint64(seed))
		p := start()
		for range 250 {
			ahead, lowered := uses(p.c), -1
			chain, n := mixed(mix), amounts[mix(len(amounts))]
			e := api.OK
			switch mix(4) {
			case 0:
				lowered = mix(66) - 1
				e = p.setLimit(t, lowered, n)
			case 1:
				e = p.give(t, chain, n)
			default:
				_, e = p.try(t, chain, n)
			}
			whatHolds(t, p.c, ahead, lowered, e)
		}
		p.holds(t)
	}
}

// whatHolds tells whether what failed changed nothing that is used, and whether none uses more than its limit but the one whose limit was set now, or one that did so ahead, and uses no more since.
func whatHolds(t *testing.T, c *Counter, ahead []int, lowered int, e api.Errno) {
	t.Helper()
	now := uses(c)
	if e != api.OK && !slices.Equal(now, ahead) {
		t.Fatalf("%v: %v, ahead %v", e, now, ahead)
	}
	for g, use := range now {
		was := g == lowered || ahead[g] > c.Limit(g) && use <= ahead[g]
		if use < 0 || use > c.Limit(g) && !was {
			t.Fatalf("%d uses %d of %d, ahead %d", g, use, c.Limit(g), ahead[g])
		}
	}
}

// uses is what each group uses.
func uses(c *Counter) []int {
	var l []int
	for g := range 64 {
		l = append(l, c.Use(g))
	}
	return l
}
