package shadow

import (
	"math"
	"math/big"
	"slices"
	"testing"

	"millpond/bits"
)

const (
	circle = 1 << 40    // how many clocks a shadow can tell
	first  = uint64(1)  // the bit that each shadow has
	past   = circle * 4 // a clock that has gone round some times
)

// Groups that a shadow can be of; those below 64 have a clock in a log.
var (
	groups  = []int{0, 1, 2, 3, 31, 32, 62, 63}
	further = []int{64, 65, 127, 128, 191, 192, 254, 255}
)

// Numbers that are no group of a shadow. Some of them would be one, if bits of them were left out.
var strangers = []int{math.MinInt, math.MinInt + 1, -1 << 40, -1 << 32, -257, -256, -255, -64, -63, -2, -1, 256, 257, 319, 320, 511, 512, 1 << 16, 1 << 31, 1 << 32, 1<<32 + 3, 1 << 40, 1 << 62, math.MaxInt - 1, math.MaxInt}

// Clocks that may be, at the ends, and beside where they go round.
var clocks = []int{0, 1, 2, 3, 255, 256, 511, 512, 1 << 20, 1<<39 - 1, 1 << 39, 1<<39 + 1, circle - 2, circle - 1, circle, circle + 1, circle + 7, 2*circle - 1, 2 * circle, past + 5, 1 << 62, math.MaxInt - 1, math.MaxInt}

// Clocks that may not be; some would be one, modulo 2^40.
var wrongClocks = []int{math.MinInt, math.MinInt + 1, -1 << 62, -circle - 1, -circle, -circle + 1, -1 << 39, -512, -9, -2, -1}

// residents is how many may be there, whether that is any number of pages or not.
var residents = []int{math.MinInt, math.MinInt + 1, -circle, -2, -1, 0, 1, 2, 3, 63, 64, 1<<39 - 1, circle - 2, circle - 1, circle, circle + 1, math.MaxInt - 1, math.MaxInt}

// wordOf is the shadow of a group and a clock that may both be, by sums alone.
func wordOf(group, clock int) uint64 {
	return 1 + 2*uint64(group) + 512*uint64(clock%circle)
}

// nones is words that are no shadow: those without the first bit, and those with a bit that no field has.
func nones() []uint64 {
	l := []uint64{0, 2, 512, math.MaxUint64, math.MaxUint64 - 1, 1<<49 - 2, 1<<63 | first, first << 49}
	for at := 1; at < 64; at++ {
		l = append(l, 1<<at, 1<<at-2)
	}
	for at := 49; at < 64; at++ {
		l = append(l, 1<<at|first, 1<<at|wordOf(3, 5), 1<<at|wordOf(255, circle-1), 1<<(at+1)-1)
	}
	for _, g := range groups {
		for _, c := range clocks {
			l = append(l, wordOf(g, c)-1)
		}
	}
	return slices.DeleteFunc(l, isShadow)
}

// isShadow tells that of a word, by the chapter's widths.
func isShadow(x uint64) bool {
	values, e := bits.Unpack([]int{1, 8, 40}, x)
	return e == 0 && values[0] == 1
}

// apart is how many went from one clock to another one, of numbers as great as needed.
func apart(from, to int) int {
	n := new(big.Int).Sub(big.NewInt(int64(to)), big.NewInt(int64(from)))
	return int(n.Mod(n, big.NewInt(circle)).Int64())
}

// steps is numbers that look mixed, the same ones at each run.
func steps(x uint64) func(n int) int {
	return func(n int) int {
		x = x*6364136223846793005 + 1442695040888963407
		return int((x ^ x>>29) >> 8 % uint64(n))
	}
}

// looks holds what Look tells of a word against what it must.
func looks(t *testing.T, x uint64, group, clock int, is bool) {
	t.Helper()
	if g, c, ok := Look(x); g != group || c != clock || ok != is {
		t.Fatalf("Look(%#x): %d, %d, %v, want %d, %d, %v", x, g, c, ok, group, clock, is)
	}
}

// makes is a Make that must be done: the word, and what is to be seen in it.
func makes(t *testing.T, group, clock int) uint64 {
	t.Helper()
	x := Make(group, clock)
	if want := wordOf(group, clock); x != want {
		t.Fatalf("Make(%d, %d): %#x, want %#x", group, clock, x, want)
	}
	looks(t, x, group, clock%circle, true)
	return x
}

// refuses is a Make of what may not be.
func refuses(t *testing.T, group, clock int) {
	t.Helper()
	if x := Make(group, clock); x != 0 {
		t.Fatalf("Make(%d, %d): %#x, want 0", group, clock, x)
	}
}

// lies is a shadow with just that distance, and with all that hangs on it.
func lies(t *testing.T, x uint64, clock, want int) {
	t.Helper()
	if d := Distance(x, clock); d != want {
		t.Fatalf("Distance(%#x, %d): %d, want %d", x, clock, d, want)
	}
	for _, r := range slices.Concat(residents, []int{want - 1, want, want + 1}) {
		works(t, x, clock, r, want >= 0 && want <= r)
	}
}

func works(t *testing.T, x uint64, clock, resident int, want bool) {
	t.Helper()
	if got := Working(x, clock, resident); got != want {
		t.Fatalf("Working(%#x, %d, %d): %v", x, clock, resident, got)
	}
}

// told is what a log must tell.
type told struct{ clock, back [64]int }

func mayLog(group int) bool { return group >= 0 && group < 64 }

func (m *told) went(group int) uint64 {
	if !mayLog(group) {
		return 0
	}
	m.clock[group]++
	return wordOf(group, m.clock[group]-1)
}

func (m *told) came(x uint64, group, resident int) bool {
	if !isShadow(x) || x/2%256 > 63 {
		return false
	}
	d := apart(int(x/512), m.clock[x/2%256])
	if resident < d {
		return false
	}
	if mayLog(group) {
		m.back[group]++
	}
	return true
}

// pair is a log, and what it must tell.
type pair struct {
	l *Log
	m *told
}

func start() *pair { return &pair{New(), &told{}} }

// startAt is one whose clocks stand as if so many of each group had gone.
func startAt(clock int) *pair {
	p := start()
	for g := range p.m.clock {
		p.l.clocks[g], p.m.clock[g] = clock, clock
	}
	return p
}

// holds tells whether the log tells of all its groups, and of numbers that are none, what it must.
func (p *pair) holds(t *testing.T) {
	t.Helper()
	for g := range p.m.clock {
		p.holdsOf(t, g, p.m.clock[g], p.m.back[g])
	}
	for _, g := range slices.Concat(further, strangers) {
		p.holdsOf(t, g, 0, 0)
	}
}

func (p *pair) holdsOf(t *testing.T, group, clock, back int) {
	t.Helper()
	if c, b := p.l.Clock(group), p.l.Back(group); c != clock || b != back {
		t.Fatalf("of %d %d went and %d came back, want %d, %d", group, c, b, clock, back)
	}
}

// went and came do the call, and hold its answer, and all that the log tells then, against what they must be.
func (p *pair) went(t *testing.T, group int) uint64 {
	t.Helper()
	want := p.m.went(group)
	x := p.l.Went(group)
	if x != want {
		t.Fatalf("Went(%d): %#x, want %#x", group, x, want)
	}
	p.holds(t)
	return x
}

func (p *pair) came(t *testing.T, x uint64, group, resident int) bool {
	t.Helper()
	want := p.m.came(x, group, resident)
	ok := p.l.Came(x, group, resident)
	if ok != want {
		t.Fatalf("Came(%#x, %d, %d): %v, want %v", x, group, resident, ok, want)
	}
	p.holds(t)
	return ok
}

// comes is a Came that must be so; stays is one that must not, and that changes nothing.
func comes(t *testing.T, p *pair, x uint64, group, resident int) {
	t.Helper()
	was := p.l.Back(group)
	if !p.came(t, x, group, resident) {
		t.Fatalf("Came(%#x, %d, %d): false", x, group, resident)
	}
	more := 0
	if mayLog(group) {
		more = 1
	}
	if is := p.l.Back(group); is != was+more {
		t.Fatalf("%d came back to %d, and then %d", was, group, is)
	}
}

func stays(t *testing.T, p *pair, x uint64, group, resident int) {
	t.Helper()
	was := *p.l
	if p.came(t, x, group, resident) {
		t.Fatalf("Came(%#x, %d, %d): true", x, group, resident)
	}
	if *p.l != was {
		t.Fatalf("Came(%#x, %d, %d) was false, and changed the log", x, group, resident)
	}
}

// The chapter's example.
func TestExample(t *testing.T) {
	l := New()
	x := l.Went(3)
	l.Went(3)
	if d := Distance(x, l.Clock(3)); d != 2 {
		t.Error(d)
	}
}

func TestMake(t *testing.T) {
	for _, c := range []struct {
		group, clock int
		want         uint64
	}{
		{0, 0, 0x1},
		{1, 0, 0x3},
		{0, 1, 0x201},
		{3, 5, 0xa07},
		{63, 0, 0x7f},
		{64, 0, 0x81},
		{255, 0, 0x1ff},
		{0, circle - 1, 0x1fffffffffe01},
		{255, circle - 1, 0x1ffffffffffff},
		{255, circle, 0x1ff},
		{255, circle + 1, 0x3ff},
		{3, math.MaxInt, 0x1fffffffffe07},
	} {
		if x := Make(c.group, c.clock); x != c.want {
			t.Errorf("Make(%d, %d): %#x, want %#x", c.group, c.clock, x, c.want)
		}
	}
	for g := range 256 {
		for _, c := range clocks {
			makes(t, g, c)
		}
	}
}

// What is made is what bits packs.
func TestMadeIsPacked(t *testing.T) {
	for _, g := range slices.Concat(groups, further) {
		for _, c := range clocks {
			x, e := bits.Pack([]int{1, 8, 40}, []int{1, g, c % circle})
			if e != 0 || Make(g, c) != x {
				t.Error(g, c, Make(g, c), x, e)
			}
		}
	}
}

// A group that may not be makes nothing, beside whatever clock, nor does a clock below 0, beside whatever group.
func TestMakeOfWrongNumbers(t *testing.T) {
	for _, g := range strangers {
		for _, c := range slices.Concat(clocks, wrongClocks) {
			refuses(t, g, c)
		}
	}
	for _, g := range slices.Concat(groups, further) {
		for _, c := range wrongClocks {
			refuses(t, g, c)
		}
	}
}

// No two shadows of other groups, or of other clocks modulo 2^40, are the same, and those of clocks that are the same modulo it are.
func TestMadeApart(t *testing.T) {
	type from struct{ group, clock int }
	seen := map[uint64]from{}
	for g := range 256 {
		for _, c := range clocks {
			f := from{g, c % circle}
			x := Make(g, c)
			if s, ok := seen[x]; ok && s != f {
				t.Fatal(x, s, f)
			}
			seen[x] = f
		}
	}
	for _, c := range clocks {
		for again := c % circle; again < past*2; again += circle {
			if Make(7, again) != Make(7, c) {
				t.Error(c, again)
			}
		}
	}
}

func TestLook(t *testing.T) {
	looks(t, 0x1, 0, 0, true)
	looks(t, 0x3, 1, 0, true)
	looks(t, 0x201, 0, 1, true)
	looks(t, 0xa07, 3, 5, true)
	looks(t, 0x1fffffffffe01, 0, circle-1, true)
	looks(t, 0x1ffffffffffff, 255, circle-1, true)
	// Each bit of a field by itself.
	for at := range 8 {
		looks(t, first|1<<(1+at), 1<<at, 0, true)
	}
	for at := range 40 {
		looks(t, first|1<<(9+at), 0, 1<<at, true)
	}
	// And each one that is off by itself.
	all := uint64(1<<49 - 1)
	for at := range 8 {
		looks(t, all&^(1<<(1+at)), 255-1<<at, circle-1, true)
	}
	for at := range 40 {
		looks(t, all&^(1<<(9+at)), 255, circle-1-1<<at, true)
	}
}

func TestLookAtNone(t *testing.T) {
	l := nones()
	for _, x := range []uint64{0, 2, 1 << 63, 1<<49 + 1, 1<<63 + 1, math.MaxUint64} {
		if !slices.Contains(l, x) {
			t.Errorf("%#x is not looked at", x)
		}
	}
	for _, x := range l {
		looks(t, x, 0, 0, false)
	}
	// A shadow is none with any bit beyond, or without its first one.
	for _, g := range slices.Concat(groups, further) {
		for _, c := range clocks {
			x := makes(t, g, c)
			looks(t, x-1, 0, 0, false)
			for at := 49; at < 64; at++ {
				looks(t, x|1<<at, 0, 0, false)
			}
		}
	}
}

// Of a small word all are known.
func TestSmallWords(t *testing.T) {
	for x := range uint64(1 << 16) {
		if x%2 == 0 {
			looks(t, x, 0, 0, false)
			continue
		}
		looks(t, x, int(x>>1&255), int(x>>9), true)
		if Make(int(x>>1&255), int(x>>9)) != x {
			t.Fatal(x)
		}
	}
}

func TestDistance(t *testing.T) {
	for _, c := range []struct{ shadow, clock, want int }{
		{0, 0, 0},
		{0, 1, 1},
		{1, 0, circle - 1},
		{5, 5, 0},
		{5, 6, 1},
		{5, 4, circle - 1},
		{10, 4, circle - 6},
		{0, circle - 1, circle - 1},
		{0, circle, 0},
		{0, circle + 1, 1},
		{circle - 1, 0, 1},
		{circle - 1, circle, 1},
		{circle - 1, circle + 1, 2},
		{circle - 1, 5*circle + 1, 2},
		{circle, circle, 0},
		{circle, 0, 0},
		{circle + 3, circle + 9, 6},
		{circle + 3, 9, 6},
		{7, math.MaxInt, circle - 8},
		{math.MaxInt, math.MaxInt, 0},
		{math.MaxInt, 0, 1},
		{math.MaxInt, 1 << 62, 1},
	} {
		for _, g := range slices.Concat(groups, further) {
			lies(t, Make(g, c.shadow), c.clock, c.want)
		}
	}
}

// A shadow's own clock, one more, one less, and what is that modulo 2^40, since it has gone round.
func TestDistanceNearby(t *testing.T) {
	for _, c := range clocks {
		x := Make(9, c)
		for round := range 4 {
			at := c%circle + round*circle
			lies(t, x, at, 0)
			lies(t, x, at+1, 1)
			lies(t, x, at+2, 2)
			if at > 0 {
				lies(t, x, at-1, circle-1)
			}
		}
	}
}

func TestDistanceOfAll(t *testing.T) {
	for _, from := range clocks {
		for _, to := range clocks {
			lies(t, Make(3, from), to, apart(from, to))
		}
	}
}

// There is none of a word that is none, nor of a clock below 0.
func TestDistanceOfNone(t *testing.T) {
	for _, x := range nones() {
		for _, c := range slices.Concat(clocks, wrongClocks) {
			lies(t, x, c, -1)
		}
	}
	for _, from := range clocks {
		for _, g := range []int{0, 63, 64, 255} {
			for _, c := range wrongClocks {
				lies(t, Make(g, from), c, -1)
			}
		}
	}
}

func TestWorking(t *testing.T) {
	x := Make(3, 5)
	for _, c := range []struct {
		clock, resident int
		want            bool
	}{
		{5, 0, true}, // none went since
		{5, -1, false},
		{5, 1, true},
		{6, 0, false},
		{6, 1, true},
		{6, 2, true},
		{15, 9, false},
		{15, 10, true},
		{15, 11, true},
		{15, -10, false},
		{15, math.MinInt, false},
		{15, math.MaxInt, true},
		{4, circle - 2, false},
		{4, circle - 1, true},
		{4, circle, true},
		{circle + 4, circle - 1, true},
		{circle + 5, 0, true},
		{-1, math.MaxInt, false},
		{math.MinInt, math.MaxInt, false},
	} {
		works(t, x, c.clock, c.resident, c.want)
	}
}

// What is none is not Working, also where -1 are there, and as few as there can be.
func TestWorkingOfNone(t *testing.T) {
	for _, x := range nones() {
		for _, r := range residents {
			works(t, x, 5, r, false)
			works(t, x, -5, r, false)
		}
	}
	for _, r := range residents {
		for _, c := range wrongClocks {
			works(t, Make(3, 5), c, r, false)
		}
	}
}

// What was made is looked at and measured, at mixed groups and clocks.
func TestMixedShadows(t *testing.T) {
	next := steps(5)
	for range 20000 {
		g := next(256)
		from, to := next(math.MaxInt), next(math.MaxInt)
		if next(2) == 0 {
			from, to = next(circle*2), next(circle*2)
		}
		x := makes(t, g, from)
		d := apart(from, to)
		if got := Distance(x, to); got != d {
			t.Fatal(x, to, got, d)
		}
		works(t, x, to, d, true)
		works(t, x, to, d-1, false)
	}
	for range 20000 {
		x := uint64(next(math.MaxInt))<<1 ^ uint64(next(1<<20))
		x >>= uint(next(64))
		g, c, ok := Look(x)
		if ok != isShadow(x) || ok && Make(g, c) != x || !ok && (g != 0 || c != 0) {
			t.Fatal(x, g, c, ok)
		}
	}
}

func TestNew(t *testing.T) {
	p := start()
	p.holds(t)
	for g := range 64 {
		if p.l.Clock(g) != 0 || p.l.Back(g) != 0 {
			t.Error(g, p.l.Clock(g), p.l.Back(g))
		}
	}
	for _, x := range nones() {
		stays(t, p, x, 3, math.MaxInt)
	}
}

func TestWent(t *testing.T) {
	for g := range 64 {
		p := start()
		for clock := range 5 {
			x := p.went(t, g)
			if x != Make(g, clock) {
				t.Fatal(g, clock, x)
			}
			looks(t, x, g, clock, true)
			lies(t, x, p.l.Clock(g), 1)
			if p.l.Clock(g) != clock+1 || p.l.Back(g) != 0 {
				t.Fatal(g, clock, p.l.Clock(g), p.l.Back(g))
			}
		}
	}
}

// A group that has no clock changes nothing, also one that a shadow can be of.
func TestWentOfWrongGroups(t *testing.T) {
	p := start()
	wrong := func() {
		t.Helper()
		was := *p.l
		for _, g := range slices.Concat(further, strangers) {
			if x := p.went(t, g); x != 0 {
				t.Fatal(g, x)
			}
			if p.l.Clock(g) != 0 || p.l.Back(g) != 0 {
				t.Fatal(g, p.l.Clock(g), p.l.Back(g))
			}
		}
		if *p.l != was {
			t.Fatal("the log was changed")
		}
	}
	wrong()
	for _, g := range groups {
		comes(t, p, p.went(t, g), g, 1)
	}
	wrong()
}

// What went last has distance 1 less than what went ahead of it, and all others theirs, whatever others went between.
func TestWentOneAfterTheOther(t *testing.T) {
	next := steps(7)
	for _, begin := range []int{0, 3, circle - 20, circle, past - 3} {
		p := startAt(begin)
		for _, g := range []int{0, 3, 63} {
			var gone []uint64
			for range 40 {
				for range next(3) {
					other := next(64)
					if other != g {
						p.went(t, other)
					}
				}
				gone = append(gone, p.went(t, g))
				for i, x := range gone {
					if d := Distance(x, p.l.Clock(g)); d != len(gone)-i {
						t.Fatal(begin, g, i, d)
					}
				}
			}
			for i := 1; i < len(gone); i++ {
				if ahead, last := Distance(gone[i-1], p.l.Clock(g)), Distance(gone[i], p.l.Clock(g)); last != ahead-1 {
					t.Fatal(ahead, last)
				}
			}
		}
	}
}

// A clock goes on beyond 2^40, and only what is made of it goes round.
func TestWentRound(t *testing.T) {
	p := startAt(circle - 2)
	var gone []uint64
	for i := range 5 {
		x := p.went(t, 3)
		gone = append(gone, x)
		if p.l.Clock(3) != circle-1+i {
			t.Fatal(p.l.Clock(3))
		}
	}
	for i, want := range []int{circle - 2, circle - 1, 0, 1, 2} {
		looks(t, gone[i], 3, want, true)
		lies(t, gone[i], p.l.Clock(3), 5-i)
		stays(t, p, gone[i], 3, 4-i)
		comes(t, p, gone[i], 3, 5-i)
	}
}

func TestCame(t *testing.T) {
	for _, g := range groups {
		p := start()
		x := p.went(t, g)
		stays(t, p, x, g, 0)
		stays(t, p, x, g, -1)
		stays(t, p, x, g, math.MinInt)
		comes(t, p, x, g, 1)
		comes(t, p, x, g, 2)
		comes(t, p, x, g, math.MaxInt)
		p.went(t, g)
		stays(t, p, x, g, 1)
		comes(t, p, x, g, 2)
		if p.l.Back(g) != 4 || p.l.Clock(g) != 2 {
			t.Error(g, p.l.Back(g), p.l.Clock(g))
		}
	}
}

// At each distance: the resident of it, one less, one more, and the ends.
func TestCameAtResidents(t *testing.T) {
	for _, begin := range []int{0, 100, circle - 3, past + 1} {
		p := startAt(begin)
		x := p.went(t, 5)
		for d := 1; d < 20; d++ {
			stays(t, p, x, 5, d-1)
			comes(t, p, x, 5, d)
			comes(t, p, x, 5, d+1)
			for _, r := range []int{math.MinInt, -d, -1, 0} {
				stays(t, p, x, 5, r)
			}
			comes(t, p, x, 5, math.MaxInt)
			p.went(t, 5)
		}
	}
}

// What is no shadow never came, whatever stands in its fields.
func TestCameOfNone(t *testing.T) {
	for _, begin := range []int{0, 1, 9} {
		p := startAt(begin)
		for _, x := range nones() {
			for _, r := range []int{math.MinInt, -1, 0, 1, 9, math.MaxInt} {
				stays(t, p, x, 1, r)
				stays(t, p, x, 99, r)
			}
		}
	}
}

// A shadow of a group that has no clock never came.
func TestCameOfFurtherGroups(t *testing.T) {
	for _, begin := range []int{0, 1, 9} {
		p := startAt(begin)
		for _, from := range further {
			for _, clock := range []int{0, 1, 8, 9, circle - 1} {
				for _, g := range []int{-1, 0, 1, 63, 64, 255, from} {
					for _, r := range []int{-1, 0, 1, 9, circle, math.MaxInt} {
						stays(t, p, Make(from, clock), g, r)
					}
				}
			}
		}
	}
}

// It comes back to the group that is told, and is measured by the clock of the one that it is of.
func TestCameToAnother(t *testing.T) {
	for _, from := range groups {
		for _, to := range groups {
			p := start()
			x := p.went(t, from)
			p.went(t, from)
			for range 9 {
				p.went(t, (from+1)%64) // so that the other clocks tell more, or less
			}
			stays(t, p, x, to, 1)
			comes(t, p, x, to, 2)
			for g := range 64 {
				want := 0
				if g == to {
					want = 1
				}
				if p.l.Back(g) != want {
					t.Fatal(from, to, g, p.l.Back(g))
				}
			}
		}
	}
}

// To a group that has none to count by, it came all the same, and nothing is counted.
func TestCameToNone(t *testing.T) {
	p := start()
	x := p.went(t, 7)
	p.went(t, 7)
	was := *p.l
	for _, to := range slices.Concat(further, strangers) {
		stays(t, p, x, to, 1)
		comes(t, p, x, to, 2)
		if *p.l != was {
			t.Fatal(to, "the log was changed")
		}
	}
}

// The same word can come as often as it is told.
func TestCameTwice(t *testing.T) {
	p := start()
	x := p.went(t, 7)
	for i := range 5 {
		comes(t, p, x, 7, 1)
		comes(t, p, x, 8, 1)
		if p.l.Back(7) != i+1 || p.l.Back(8) != i+1 {
			t.Error(i, p.l.Back(7), p.l.Back(8))
		}
	}
	comes(t, p, makes(t, 7, 0), 7, 1) // and so can one that was made of the same
}

// A word of a clock that has not been is far away, since its distance goes round.
func TestCameOfAClockToCome(t *testing.T) {
	p := start()
	for clock := range 4 {
		p.went(t, 2)
		for ahead := 1; ahead < 4; ahead++ {
			x := Make(2, clock+1+ahead)
			far := circle - ahead
			stays(t, p, x, 2, 0)
			stays(t, p, x, 2, 1000)
			stays(t, p, x, 2, far-1)
			comes(t, p, x, 2, far)
			comes(t, p, x, 2, math.MaxInt)
		}
		x := Make(2, clock+1) // the one that is made next: none went since
		stays(t, p, x, 2, -1)
		comes(t, p, x, 2, 0)
	}
	q := start()
	comes(t, q, Make(4, 0), 4, 0)
	stays(t, q, Make(4, 1), 4, circle-2)
	comes(t, q, Make(4, 1), 4, circle-1)
}

// Came changes no clock, whether it is so or not.
func TestCameChangesNoClock(t *testing.T) {
	p := start()
	var gone []uint64
	for _, g := range groups {
		for range 3 {
			gone = append(gone, p.went(t, g))
		}
	}
	was := p.l.clocks
	for _, x := range gone {
		for _, to := range []int{-1, 0, 3, 63, 64} {
			stays(t, p, x, to, 0)
			comes(t, p, x, to, 3)
			if p.l.clocks != was {
				t.Fatal(x, to, "a clock was changed")
			}
		}
	}
}

// What is done to one group changes no other.
func TestGroupsApart(t *testing.T) {
	for g := range 64 {
		p := start()
		for other := range 64 {
			for range other % 3 {
				comes(t, p, p.went(t, other), other, 1)
			}
		}
		was := *p.l
		comes(t, p, p.went(t, g), g, 1)
		p.went(t, g)
		if p.l.Clock(g) != was.clocks[g]+2 || p.l.Back(g) != was.backs[g]+1 {
			t.Fatal(g, p.l.Clock(g), p.l.Back(g))
		}
		for other := range 64 {
			if other != g && (p.l.Clock(other) != was.clocks[other] || p.l.Back(other) != was.backs[other]) {
				t.Fatal(g, other, p.l.Clock(other), p.l.Back(other))
			}
		}
	}
}

// Two logs have nothing in common.
func TestTwoLogs(t *testing.T) {
	p, q := start(), start()
	x := p.went(t, 3)
	p.went(t, 3)
	q.holds(t)
	comes(t, p, x, 3, 2)
	q.holds(t)
	if y := q.went(t, 3); y != x {
		t.Errorf("%#x and %#x", x, y)
	}
	p.holds(t)
	stays(t, p, x, 3, 1)
	comes(t, q, x, 3, 1) // one went there, and two in the other one
	comes(t, q, x, 5, 1)
	p.holds(t)
	q.went(t, 0)
	p.holds(t)
	if p.l.Clock(3) != 2 || q.l.Clock(3) != 1 || p.l.Back(3) != 1 || q.l.Back(3) != 1 || q.l.Back(5) != 1 || p.l.Back(5) != 0 {
		t.Error(*p.l, *q.l)
	}
}

// No call on words changes a log, and none on a log changes what words tell.
func TestNothingIsKept(t *testing.T) {
	p := start()
	x := p.went(t, 3)
	for _, c := range slices.Concat(clocks, wrongClocks) {
		Make(3, c)
		Distance(x, c)
		Working(x, c, math.MaxInt)
	}
	Look(x)
	p.holds(t)
	for range 9 {
		p.went(t, 3)
		comes(t, p, x, 3, 100)
		looks(t, x, 3, 0, true)
		lies(t, x, 4, 4)
	}
}

// Many went.
func TestMany(t *testing.T) {
	l := New()
	firsts := [64]uint64{}
	for i := range 64 * 3000 {
		x := l.Went(i % 64)
		if i < 64 {
			firsts[i] = x
		}
	}
	for g, x := range firsts {
		if l.Clock(g) != 3000 || Distance(x, l.Clock(g)) != 3000 || l.Came(x, g, 2999) || !l.Came(x, g, 3000) || l.Back(g) != 1 {
			t.Error(g, l.Clock(g), Distance(x, l.Clock(g)), l.Back(g))
		}
	}
}

// Calls in mixed order, of what may be and of what may not.
func TestMixed(t *testing.T) {
	for seed := range uint64(6) {
		next := steps(seed)
		p := startAt([]int{0, circle - 30, past}[seed%3])
		words := slices.Concat(nones(), []uint64{Make(70, 0), Make(255, 3), Make(1, circle-1)})
		numbers := slices.Concat(groups, groups, groups, further, strangers)
		truths := 0
		for range 4000 {
			g := numbers[next(len(numbers))]
			if next(3) == 0 {
				words = append(words, p.went(t, g))
				continue
			}
			x := words[len(words)-1-next(min(len(words), 60+next(len(words))))]
			r := next(12)
			if next(10) == 0 {
				r = residents[next(len(residents))]
			}
			if p.came(t, x, g, r) {
				truths++
			}
		}
		if truths < 100 {
			t.Error(seed, truths)
		}
	}
}
