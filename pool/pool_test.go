package pool

import (
	"math"
	"slices"
	"testing"

	"millpond/api"
)

// Numbers that no pool has.
var strangers = []int{math.MinInt, math.MinInt + 1, -1025, -1024, -64, -1, 1024, 1025, 65536, math.MaxInt32, math.MaxInt - 1, math.MaxInt}

// Sizes around the ends of words, and of the greatest pool.
var sizes = []int{0, 1, 2, 3, 63, 64, 65, 127, 128, 129, 500, 1023, 1024}

func TestNew(t *testing.T) {
	for _, x := range []struct{ n, want int }{
		{math.MinInt, 0}, {-1024, 0}, {-1, 0}, {0, 0}, {1, 1}, {2, 2}, {63, 63}, {64, 64}, {65, 65},
		{1023, 1023}, {1024, 1024}, {1025, 1024}, {5000, 1024}, {65536, 1024}, {65537, 1024}, {math.MaxInt, 1024},
	} {
		p := New(x.n)
		if p.Len() != x.want || p.Free() != x.want {
			t.Errorf("New(%d): %d, %d of them free, want %d", x.n, p.Len(), p.Free(), x.want)
		}
		if l := takenOf(p); len(l) != 0 {
			t.Errorf("New(%d): %v are taken", x.n, l)
		}
	}
}

func TestNoNumbers(t *testing.T) {
	for _, n := range []int{math.MinInt, -1, 0} {
		p := New(n)
		for range 2 {
			refusesTake(t, p)
			for _, i := range append([]int{0, 1, 2}, strangers...) {
				refusesGive(t, p, i, api.ErrArg)
				if p.Taken(i) {
					t.Errorf("%d of none is taken", i)
				}
			}
			for _, many := range []int{1, 2, 1024, math.MaxInt} {
				refusesRun(t, p, many, api.ErrFull)
			}
			for _, many := range []int{0, -1, math.MinInt} {
				refusesRun(t, p, many, api.ErrArg)
			}
		}
		if p.Len() != 0 || p.Free() != 0 || p.Level(0, 0) != 2 || p.Level(0, 1) != 1 || p.Level(1, 1) != 0 {
			t.Error(p.Len(), p.Free())
		}
	}
}

// The chapter's example.
func TestExample(t *testing.T) {
	p := New(3)
	takes(t, p, 0)
	takes(t, p, 1)
	gives(t, p, 0)
	refusesRun(t, p, 2, api.ErrFull)
	takes(t, p, 0)
}

func TestTakeAllOfThem(t *testing.T) {
	for _, n := range sizes {
		p := New(n)
		for i := range n {
			if p.Taken(i) || p.Free() != n-i {
				t.Fatalf("of %d: %d is taken, or not %d are free", n, i, n-i)
			}
			takes(t, p, i)
			if !p.Taken(i) || p.Free() != n-i-1 || p.Len() != n {
				t.Fatalf("of %d: after %d: %d free of %d", n, i, p.Free(), p.Len())
			}
		}
		refusesTake(t, p)
		refusesTake(t, p)
		for i := range n {
			if !p.Taken(i) {
				t.Errorf("of %d: %d is not taken", n, i)
			}
		}
	}
}

func TestTakeTheLeast(t *testing.T) {
	p := full(t, 200)
	for _, i := range []int{199, 64, 63, 128, 0, 130} {
		gives(t, p, i)
	}
	for _, i := range []int{0, 63, 64, 128, 130, 199} {
		takes(t, p, i)
	}
	refusesTake(t, p)
}

// The last one that is left goes out, and comes back, whichever it is.
func TestTakeTheLastOne(t *testing.T) {
	for _, n := range []int{1, 64, 65, 1024} {
		p := full(t, n)
		for _, i := range []int{0, n / 2, n - 1} {
			gives(t, p, i)
			if p.Free() != 1 || p.Taken(i) {
				t.Errorf("of %d without %d: %d free", n, i, p.Free())
			}
			takes(t, p, i)
			refusesTake(t, p)
		}
	}
}

func TestGive(t *testing.T) {
	for _, n := range sizes {
		p := New(n)
		for i := range n {
			refusesGive(t, p, i, api.ErrNone)
		}
		for range n {
			p.Take()
		}
		for i := range n {
			gives(t, p, i)
			if p.Taken(i) || p.Free() != i+1 {
				t.Fatalf("of %d: after Give(%d): %d free", n, i, p.Free())
			}
			refusesGive(t, p, i, api.ErrNone)
		}
		refusesGive(t, p, n, api.ErrArg)
	}
}

func TestGiveOneAlone(t *testing.T) {
	p := full(t, 130)
	gives(t, p, 64)
	for i := range 130 {
		if p.Taken(i) != (i != 64) {
			t.Errorf("Taken(%d) is %v", i, p.Taken(i))
		}
	}
}

func TestNumbersThatThereAreNot(t *testing.T) {
	for _, n := range sizes {
		for _, p := range []*Pool{New(n), full(t, n)} {
			for _, i := range append([]int{n, n + 1, n + 63, n + 64}, strangers...) {
				refusesGive(t, p, i, api.ErrArg)
				if p.Taken(i) {
					t.Errorf("of %d: %d is taken", n, i)
				}
			}
		}
	}
}

func TestRunRefusesLessThanOne(t *testing.T) {
	for _, n := range sizes {
		for _, p := range []*Pool{New(n), full(t, n)} {
			for _, many := range []int{0, -1, -2, -64, -1024, math.MinInt + 1, math.MinInt} {
				refusesRun(t, p, many, api.ErrArg)
			}
		}
	}
}

func TestRunOfOneIsTake(t *testing.T) {
	p := full(t, 70)
	for _, i := range []int{69, 3, 64} {
		gives(t, p, i)
	}
	for _, i := range []int{3, 64, 69} {
		runs(t, p, 1, i)
	}
	refusesRun(t, p, 1, api.ErrFull)
}

func TestRunOfAll(t *testing.T) {
	for _, n := range sizes[1:] {
		p := New(n)
		runs(t, p, n, 0)
		if p.Free() != 0 || len(takenOf(p)) != n {
			t.Errorf("all of %d: %d are left", n, p.Free())
		}
		refusesRun(t, p, 1, api.ErrFull)
		refusesTake(t, p)
	}
}

func TestRunOfMoreThanThereAre(t *testing.T) {
	for _, n := range sizes {
		p := New(n)
		for _, many := range []int{n + 1, n + 2, n + 64, 1025, 65536, math.MaxInt32, math.MaxInt - 1, math.MaxInt} {
			refusesRun(t, p, many, api.ErrFull)
		}
		for i := range n {
			takes(t, p, i)
			refusesRun(t, p, n-i, api.ErrFull)
			refusesRun(t, p, math.MaxInt-i, api.ErrFull)
		}
	}
}

// Half of them are free, but no two side by side.
func TestRunWhereNoneAreSideBySide(t *testing.T) {
	for _, first := range []int{0, 1} {
		p := full(t, 128)
		for i := first; i < 128; i += 2 {
			gives(t, p, i)
		}
		for _, many := range []int{2, 3, 64} {
			refusesRun(t, p, many, api.ErrFull)
		}
		gives(t, p, 65-first)
		runs(t, p, 3, 64-first)
		refusesRun(t, p, 2, api.ErrFull)
		runs(t, p, 1, first)
	}
}

// The ends of a pool are not side by side.
func TestRunGoesNotRound(t *testing.T) {
	p := full(t, 64)
	for _, i := range []int{0, 1, 62, 63} {
		gives(t, p, i)
	}
	for _, many := range []int{3, 4} {
		refusesRun(t, p, many, api.ErrFull)
	}
	runs(t, p, 2, 0)
	runs(t, p, 2, 62)
}

func TestRunTheLeastThatIsWideEnough(t *testing.T) {
	p := full(t, 300)
	free(t, p, 2, 4)     // 2
	free(t, p, 10, 13)   // 3
	free(t, p, 60, 68)   // 8, over a word's end
	free(t, p, 100, 230) // 130, over whole words
	free(t, p, 290, 300) // 10, up to the end
	runs(t, p, 3, 10)
	runs(t, p, 8, 60)
	runs(t, p, 9, 100)
	runs(t, p, 121, 109)
	refusesRun(t, p, 11, api.ErrFull)
	runs(t, p, 10, 290)
	refusesRun(t, p, 3, api.ErrFull)
	runs(t, p, 2, 2)
	if p.Free() != 0 {
		t.Error(p.Free())
	}
}

// A run takes as many as it was asked for, and leaves the rest of its gap.
func TestRunTakesNoMore(t *testing.T) {
	p := New(200)
	runs(t, p, 70, 0)
	runs(t, p, 60, 70)
	if p.Free() != 70 || !p.Taken(129) || p.Taken(130) {
		t.Error(p.Free(), takenOf(p))
	}
	takes(t, p, 130)
}

func TestWhatWasRunIsGivenOneByOne(t *testing.T) {
	p := New(100)
	runs(t, p, 100, 0)
	for i := range 100 {
		gives(t, p, i)
	}
	if p.Free() != 100 {
		t.Error(p.Free())
	}
}

func TestLevel(t *testing.T) {
	p := full(t, 10)
	free(t, p, 2, 7) // 5
	for _, x := range []struct{ low, high, want int }{
		{6, 9, 0}, {5, 9, 1}, {4, 9, 1}, {4, 6, 1}, {5, 6, 1}, {4, 5, 2}, {5, 5, 2}, {3, 4, 2}, {0, 0, 2}, {0, 6, 1},
		// high below low
		{6, 5, 0}, {6, 4, 0}, {6, 0, 0}, {5, 4, 2}, {5, 0, 2}, {9, -9, 0}, {4, 3, 2},
		{-1, -1, 2}, {-1, 6, 1}, {-1, 5, 2}, {6, -1, 0},
		{math.MinInt, math.MinInt, 2}, {math.MinInt, math.MaxInt, 1}, {math.MaxInt, math.MinInt, 0}, {math.MaxInt, math.MaxInt, 0},
		{5, math.MaxInt, 1}, {5, math.MinInt, 2},
	} {
		if got := p.Level(x.low, x.high); got != x.want {
			t.Errorf("5 free: Level(%d, %d) = %d, want %d", x.low, x.high, got, x.want)
		}
	}
}

func TestLevelFollowsWhatIsFree(t *testing.T) {
	p := New(6)
	for _, want := range []int{2, 2, 2, 1, 1, 0, 0} {
		if got := p.Level(2, 4); got != want {
			t.Errorf("%d free: Level(2, 4) = %d, want %d", p.Free(), got, want)
		}
		p.Take()
	}
	for i, want := range []int{0, 1, 1, 2, 2, 2} {
		p.Give(i)
		if got := p.Level(2, 4); got != want {
			t.Errorf("%d free: Level(2, 4) = %d, want %d", p.Free(), got, want)
		}
	}
}

// What only asks leaves all as it was.
func TestAskingChangesNothing(t *testing.T) {
	p := New(100)
	runs(t, p, 40, 0)
	gives(t, p, 7)
	was := takenOf(p)
	for i := -2; i < 102; i++ {
		p.Taken(i)
		p.Level(i, 50)
	}
	p.Free()
	p.Len()
	if now := takenOf(p); !slices.Equal(was, now) {
		t.Errorf("%v were taken, %v are", was, now)
	}
}

func TestPoolsKnowNothingOfEachOther(t *testing.T) {
	a, b := New(100), New(100)
	runs(t, a, 50, 0)
	if b.Free() != 100 || len(takenOf(b)) != 0 {
		t.Error("what one handed out the other one lacks")
	}
	refusesGive(t, b, 7, api.ErrNone)
	runs(t, b, 100, 0)
	if a.Free() != 50 || a.Taken(50) {
		t.Error("what the other one handed out the one lacks")
	}
	gives(t, a, 7)
	if !b.Taken(7) || b.Free() != 0 || a.Free() != 51 {
		t.Error("what one got back the other one has")
	}
}

// All calls, held against a plain list of bools; and none is handed out that somebody has.
func TestLikeAList(t *testing.T) {
	for _, n := range []int{1, 5, 63, 64, 65, 130, 300} {
		p, list := New(n), make([]bool, n)
		next := steps(uint64(n))
		for range 3000 {
			switch i := int(next()%uint64(n+20)) - 10; next() % 4 {
			case 0:
				first, e := p.Take()
				handsOut(t, list, 1, first, e)
			case 1:
				many := int(next()%12) - 2
				first, e := p.Run(many)
				handsOut(t, list, many, first, e)
			default:
				if got, want := p.Give(i), giveOf(list, i); got != want {
					t.Fatalf("of %d: Give(%d) = %v, want %v", n, i, got, want)
				}
			}
			free := 0
			for i, taken := range list {
				if p.Taken(i) != taken {
					t.Fatalf("of %d: Taken(%d) is not %v", n, i, taken)
				}
				if !taken {
					free++
				}
			}
			if p.Free() != free || p.Len() != n {
				t.Fatalf("of %d: %d free of %d, want %d", n, p.Free(), p.Len(), free)
			}
		}
	}
}

// handsOut tells whether first and e are what a list would hand out, and takes it there.
func handsOut(t *testing.T, list []bool, many, first int, e api.Errno) {
	t.Helper()
	want, err := runOf(list, many)
	if first != want || e != err {
		t.Fatalf("of %d: a run of %d = %d, %v, want %d, %v", len(list), many, first, e, want, err)
	}
	for k := range many {
		if e == api.OK && list[first+k] {
			t.Fatalf("of %d: %d is handed out twice", len(list), first+k)
		}
		if e == api.OK {
			list[first+k] = true
		}
	}
}

// runOf is where a list has room for a run.
func runOf(list []bool, many int) (int, api.Errno) {
	if many < 1 {
		return -1, api.ErrArg
	}
	for i := 0; i+many <= len(list); i++ {
		if !slices.Contains(list[i:i+many], true) {
			return i, api.OK
		}
	}
	return -1, api.ErrFull
}

// giveOf is Give of a list.
func giveOf(list []bool, i int) api.Errno {
	if i < 0 || i >= len(list) {
		return api.ErrArg
	}
	if !list[i] {
		return api.ErrNone
	}
	list[i] = false
	return api.OK
}

// full is a pool with all its numbers taken.
func full(t *testing.T, n int) *Pool {
	t.Helper()
	p := New(n)
	for i := range n {
		takes(t, p, i)
	}
	return p
}

// free gives the numbers from from on up to ahead of to back.
func free(t *testing.T, p *Pool, from, to int) {
	t.Helper()
	for i := from; i < to; i++ {
		gives(t, p, i)
	}
}

func takes(t *testing.T, p *Pool, want int) {
	t.Helper()
	if i, e := p.Take(); i != want || e != api.OK {
		t.Errorf("Take() = %d, %v, want %d", i, e, want)
	}
}

func gives(t *testing.T, p *Pool, i int) {
	t.Helper()
	if e := p.Give(i); e != api.OK {
		t.Errorf("Give(%d) = %v", i, e)
	}
}

// runs tells whether a run begins at want, and takes just the numbers that it must.
func runs(t *testing.T, p *Pool, many, want int) {
	t.Helper()
	was := takenOf(p)
	if i, e := p.Run(many); i != want || e != api.OK {
		t.Errorf("Run(%d) = %d, %v, want %d", many, i, e, want)
		return
	}
	for k := range many {
		was = append(was, want+k)
	}
	slices.Sort(was)
	if now := takenOf(p); !slices.Equal(was, now) {
		t.Errorf("Run(%d): %v are taken, want %v", many, now, was)
	}
}

func refusesTake(t *testing.T, p *Pool) {
	t.Helper()
	was := takenOf(p)
	if i, e := p.Take(); i != -1 || e != api.ErrFull {
		t.Errorf("Take() = %d, %v, want -1, %v", i, e, api.ErrFull)
	}
	staysAs(t, p, was)
}

func refusesGive(t *testing.T, p *Pool, i int, want api.Errno) {
	t.Helper()
	was := takenOf(p)
	if e := p.Give(i); e != want {
		t.Errorf("of %d: Give(%d) = %v, want %v", p.Len(), i, e, want)
	}
	staysAs(t, p, was)
}

func refusesRun(t *testing.T, p *Pool, many int, want api.Errno) {
	t.Helper()
	was := takenOf(p)
	if i, e := p.Run(many); i != -1 || e != want {
		t.Errorf("of %d: Run(%d) = %d, %v, want -1, %v", p.Len(), many, i, e, want)
	}
	staysAs(t, p, was)
}

// staysAs tells whether what was refused changed nothing.
func staysAs(t *testing.T, p *Pool, was []int) {
	t.Helper()
	if now := takenOf(p); !slices.Equal(was, now) || p.Free() != p.Len()-len(was) {
		t.Errorf("%v were taken, %v are, and %d are free", was, now, p.Free())
	}
}

// takenOf is the numbers that are taken; it looks beyond the ends, too.
func takenOf(p *Pool) []int {
	var l []int
	for i := -1; i <= p.Len(); i++ {
		if p.Taken(i) {
			l = append(l, i)
		}
	}
	return l
}

// steps is numbers that look mixed, the same ones at each run.
func steps(x uint64) func() uint64 {
	return func() uint64 {
		x = x*6364136223846793005 + 1442695040888963407
		return x ^ x>>29
	}
}
