package tree

import (
	"math"
	"slices"
	"testing"

	"millpond/api"
)

// Numbers that no group ever has.
var strangers = []int{
	math.MinInt, math.MinInt + 1, -1 << 32, -65, -64, -63, -8, -2, -1,
	64, 65, 127, 128, 1 << 31, 1 << 32, 1<<32 + 1, 1 << 62, math.MaxInt - 1, math.MaxInt,
}

// told is what a tree must tell, by parents alone: one of each group that there was, with nobody for the root and gone for one that lives no more.
type told []int

const (
	nobody = -1
	gone   = -2
)

func (m told) lives(g int) bool { return g >= 0 && g < len(m) && m[g] != gone }

func (m told) chain(g int) []int {
	if !m.lives(g) {
		return nil
	}
	if m[g] == nobody {
		return []int{g}
	}
	return append([]int{g}, m.chain(m[g])...)
}

// below is found from above: a group, and what is below each of its kids.
func (m told) below(g int) []int {
	if !m.lives(g) {
		return nil
	}
	list := []int{g}
	for _, kid := range m.kids(g) {
		list = append(list, m.below(kid)...)
	}
	slices.Sort(list)
	return list
}

func (m told) kids(g int) []int {
	var list []int
	for x, parent := range m {
		if m.lives(g) && parent == g {
			list = append(list, x)
		}
	}
	return list
}

func (m told) parent(g int) int {
	if !m.lives(g) {
		return -1
	}
	return m[g]
}

func (m told) depth(g int) int { return len(m.chain(g)) - 1 }

// add is what Add must answer, and what there is then.
func (m told) add(parent int) (told, int, api.Errno) {
	if !m.lives(parent) {
		return m, -1, api.ErrNone
	}
	if m.depth(parent) == 7 {
		return m, -1, api.ErrDeep
	}
	if len(m) == 64 {
		return m, -1, api.ErrFull
	}
	return append(slices.Clone(m), parent), len(m), api.OK
}

// remove is what Remove must answer, and what there is then.
func (m told) remove(g int) (told, api.Errno) {
	if g == 0 {
		return m, api.ErrArg
	}
	if !m.lives(g) {
		return m, api.ErrNone
	}
	if len(m.below(g)) > 1 {
		return m, api.ErrBusy
	}
	m = slices.Clone(m)
	m[g] = gone
	return m, api.OK
}

// holdsOf tells whether a tree tells of one number what it must, by each of its calls.
func holdsOf(t *testing.T, x *Tree, m told, g int) {
	t.Helper()
	if x.Live(g) != m.lives(g) {
		t.Fatalf("Live(%d): %v of %v", g, x.Live(g), m)
	}
	if x.Parent(g) != m.parent(g) {
		t.Fatalf("Parent(%d): %d of %v", g, x.Parent(g), m)
	}
	if x.Depth(g) != m.depth(g) {
		t.Fatalf("Depth(%d): %d of %v", g, x.Depth(g), m)
	}
	if l := x.Chain(g); !slices.Equal(l, m.chain(g)) {
		t.Fatalf("Chain(%d): %v of %v", g, l, m)
	}
	if l := x.Below(g); !slices.Equal(l, m.below(g)) {
		t.Fatalf("Below(%d): %v of %v", g, l, m)
	}
	if l := x.Kids(g); !slices.Equal(l, m.kids(g)) {
		t.Fatalf("Kids(%d): %v of %v", g, l, m)
	}
}

// holds tells whether a tree has these groups and no others.
func holds(t *testing.T, x *Tree, m told) {
	t.Helper()
	if x.Len() != len(m) {
		t.Fatalf("Len: %d of %v", x.Len(), m)
	}
	for g := -2; g < len(m)+3; g++ {
		holdsOf(t, x, m, g)
	}
	for _, g := range strangers {
		holdsOf(t, x, m, g)
	}
}

// pair is a tree, and what it must tell.
type pair struct {
	x *Tree
	m told
}

func start() *pair { return &pair{New(), told{nobody}} }

// add does Add and holds its answer against what it must be; whether it changed what it must is left to holds.
func (p *pair) add(t *testing.T, parent int) (int, api.Errno) {
	t.Helper()
	m, want, wantE := p.m.add(parent)
	g, e := p.x.Add(parent)
	if g != want || e != wantE {
		t.Fatalf("Add(%d): %d, %v, want %d, %v, of %v", parent, g, e, want, wantE, p.m)
	}
	p.m = m
	return g, e
}

func (p *pair) remove(t *testing.T, g int) api.Errno {
	t.Helper()
	m, want := p.m.remove(g)
	e := p.x.Remove(g)
	if e != want {
		t.Fatalf("Remove(%d): %v, want %v, of %v", g, e, want, p.m)
	}
	p.m = m
	return e
}

// adds is a group below another one, by which the tree must tell what it has to.
func adds(t *testing.T, p *pair, parent, want int) {
	t.Helper()
	if g, e := p.add(t, parent); g != want || e != api.OK {
		t.Fatalf("Add(%d): %d, %v, want %d", parent, g, e, want)
	}
	holds(t, p.x, p.m)
}

// refuses is an Add that must err, and change nothing.
func refuses(t *testing.T, p *pair, parent int, want api.Errno) {
	t.Helper()
	was := slices.Clone(p.m)
	if g, e := p.add(t, parent); g != -1 || e != want {
		t.Fatalf("Add(%d): %d, %v, want -1, %v", parent, g, e, want)
	}
	holds(t, p.x, was)
}

// removes is a group that must go.
func removes(t *testing.T, p *pair, g int) {
	t.Helper()
	if e := p.remove(t, g); e != api.OK {
		t.Fatalf("Remove(%d): %v", g, e)
	}
	holds(t, p.x, p.m)
}

// stays is a Remove that must err, and change nothing.
func stays(t *testing.T, p *pair, g int, want api.Errno) {
	t.Helper()
	was := slices.Clone(p.m)
	if e := p.remove(t, g); e != want {
		t.Fatalf("Remove(%d): %v, want %v", g, e, want)
	}
	holds(t, p.x, was)
}

func tells(t *testing.T, what string, g int, list []int, want ...int) {
	t.Helper()
	if !slices.Equal(list, want) {
		t.Errorf("%s(%d): %v, want %v", what, g, list, want)
	}
}

// steps is numbers that look mixed, the same ones at each run.
func steps(x uint64) func() uint64 {
	return func() uint64 {
		x = x*6364136223846793005 + 1442695040888963407
		return x ^ x>>29
	}
}

// line is a tree of groups one below the other, n of them below the root.
func line(t *testing.T, n int) *pair {
	t.Helper()
	p := start()
	for i := range n {
		adds(t, p, i, i+1)
	}
	return p
}

// The chapter's example.
func TestExample(t *testing.T) {
	x := New()
	for parent, want := range []int{1, 2} {
		if g, e := x.Add(parent); g != want || e != api.OK {
			t.Error(parent, g, e)
		}
	}
	tells(t, "Chain", 2, x.Chain(2), 2, 1, 0)
	tells(t, "Below", 1, x.Below(1), 1, 2)
}

func TestRootAlone(t *testing.T) {
	p := start()
	holds(t, p.x, told{nobody})
	if !p.x.Live(0) || p.x.Len() != 1 || p.x.Parent(0) != -1 || p.x.Depth(0) != 0 {
		t.Error(p.x.Live(0), p.x.Len(), p.x.Parent(0), p.x.Depth(0))
	}
	tells(t, "Chain", 0, p.x.Chain(0), 0)
	tells(t, "Below", 0, p.x.Below(0), 0)
	tells(t, "Kids", 0, p.x.Kids(0))
	for range 2 {
		stays(t, p, 0, api.ErrArg)
	}
	for _, g := range append([]int{1, 2, 62, 63}, strangers...) {
		refuses(t, p, g, api.ErrNone)
		stays(t, p, g, api.ErrNone)
	}
	adds(t, p, 0, 1)
}

// A tree with several below one, on several levels, told in full.
func TestSeveral(t *testing.T) {
	p := start()
	for i, parent := range []int{0, 0, 1, 3, 1, 2, 4, 0, 3} {
		adds(t, p, parent, i+1)
	}
	x := p.x
	tells(t, "Chain", 7, x.Chain(7), 7, 4, 3, 1, 0)
	tells(t, "Chain", 6, x.Chain(6), 6, 2, 0)
	tells(t, "Chain", 8, x.Chain(8), 8, 0)
	tells(t, "Below", 0, x.Below(0), 0, 1, 2, 3, 4, 5, 6, 7, 8, 9)
	tells(t, "Below", 1, x.Below(1), 1, 3, 4, 5, 7, 9)
	tells(t, "Below", 2, x.Below(2), 2, 6)
	tells(t, "Below", 3, x.Below(3), 3, 4, 7, 9)
	tells(t, "Below", 8, x.Below(8), 8)
	tells(t, "Kids", 0, x.Kids(0), 1, 2, 8)
	tells(t, "Kids", 1, x.Kids(1), 3, 5)
	tells(t, "Kids", 3, x.Kids(3), 4, 9)
	tells(t, "Kids", 7, x.Kids(7))
	for g, want := range []int{-1, 0, 0, 1, 3, 1, 2, 4, 0, 3} {
		if x.Parent(g) != want {
			t.Errorf("Parent(%d): %d, want %d", g, x.Parent(g), want)
		}
	}
	for g, want := range []int{0, 1, 1, 2, 3, 2, 2, 4, 1, 3} {
		if x.Depth(g) != want {
			t.Errorf("Depth(%d): %d, want %d", g, x.Depth(g), want)
		}
	}
	removes(t, p, 7)
	removes(t, p, 4)
	removes(t, p, 8)
	tells(t, "Below", 0, x.Below(0), 0, 1, 2, 3, 5, 6, 9)
	tells(t, "Below", 3, x.Below(3), 3, 9)
	tells(t, "Kids", 0, x.Kids(0), 1, 2)
	tells(t, "Kids", 3, x.Kids(3), 9)
	if x.Len() != 10 {
		t.Error(x.Len())
	}
}

// A group of Depth 6 may have one below it, one of Depth 7 may not.
func TestDeepest(t *testing.T) {
	p := line(t, 7)
	if p.x.Depth(6) != 6 || p.x.Depth(7) != 7 || len(p.x.Chain(7)) != api.MaxDepth {
		t.Error(p.x.Depth(6), p.x.Depth(7), p.x.Chain(7))
	}
	for range 3 {
		refuses(t, p, 7, api.ErrDeep)
	}
	adds(t, p, 6, 8)
	refuses(t, p, 8, api.ErrDeep)
	adds(t, p, 5, 9)
	adds(t, p, 9, 10)
	refuses(t, p, 10, api.ErrDeep)
	adds(t, p, 0, 11)
	stays(t, p, 6, api.ErrBusy)
	removes(t, p, 7)
	refuses(t, p, 7, api.ErrNone)
	removes(t, p, 8)
	removes(t, p, 6)
	refuses(t, p, 6, api.ErrNone)
	adds(t, p, 5, 12)
	adds(t, p, 12, 13)
	refuses(t, p, 13, api.ErrDeep)
}

// The 64th is made, with 63 for its number; then there is no room, whoever of them lives.
func TestFull(t *testing.T) {
	p := start()
	for p.x.Len() < 63 {
		adds(t, p, 0, p.x.Len())
	}
	refuses(t, p, 63, api.ErrNone)
	adds(t, p, 62, 63)
	refuses(t, p, 0, api.ErrFull)
	refuses(t, p, 62, api.ErrFull)
	refuses(t, p, 63, api.ErrFull)
	for _, g := range append([]int{64, 65}, strangers...) {
		refuses(t, p, g, api.ErrNone)
		stays(t, p, g, api.ErrNone)
	}
	for g := 63; g > 0; g-- {
		removes(t, p, g)
		refuses(t, p, g, api.ErrNone)
		refuses(t, p, 0, api.ErrFull)
	}
	if p.x.Len() != 64 {
		t.Error(p.x.Len())
	}
	tells(t, "Below", 0, p.x.Below(0), 0)
	tells(t, "Kids", 0, p.x.Kids(0))
}

// Groups that are gone count, too, so that with never more than two alive there are 64 as well.
func TestFullOfThoseGone(t *testing.T) {
	p := start()
	for g := 1; g < 64; g++ {
		adds(t, p, 0, g)
		if g < 63 {
			removes(t, p, g)
		}
	}
	refuses(t, p, 0, api.ErrFull)
	refuses(t, p, 63, api.ErrFull)
	removes(t, p, 63)
	refuses(t, p, 0, api.ErrFull)
}

// Where several errors could be told, it is the one that the chapter names first.
func TestOrderOfErrors(t *testing.T) {
	p := line(t, 7)
	adds(t, p, 6, 8)
	removes(t, p, 8)
	refuses(t, p, 8, api.ErrNone) // it was of Depth 7
	for p.x.Len() < 64 {
		adds(t, p, 0, p.x.Len())
	}
	removes(t, p, 63)
	refuses(t, p, 7, api.ErrDeep) // and it is full
	refuses(t, p, 6, api.ErrFull)
	refuses(t, p, 0, api.ErrFull)
	refuses(t, p, 8, api.ErrNone)
	refuses(t, p, 63, api.ErrNone)
	refuses(t, p, 64, api.ErrNone)
	refuses(t, p, -1, api.ErrNone)
	stays(t, p, 0, api.ErrArg) // and there are those below it
	stays(t, p, 6, api.ErrBusy)
	stays(t, p, 8, api.ErrNone)
}

func TestRemove(t *testing.T) {
	p := line(t, 3)
	adds(t, p, 1, 4)
	stays(t, p, 0, api.ErrArg)
	stays(t, p, 1, api.ErrBusy)
	stays(t, p, 2, api.ErrBusy)
	removes(t, p, 3)
	stays(t, p, 3, api.ErrNone)
	stays(t, p, 1, api.ErrBusy)
	removes(t, p, 2)
	stays(t, p, 2, api.ErrNone)
	stays(t, p, 1, api.ErrBusy) // 4 lives
	removes(t, p, 4)
	removes(t, p, 1)
	for range 2 {
		for g := 1; g < 5; g++ {
			stays(t, p, g, api.ErrNone)
		}
		stays(t, p, 0, api.ErrArg)
	}
	for _, g := range append([]int{5, 6, 63}, strangers...) {
		stays(t, p, g, api.ErrNone)
	}
}

// A number is handed out once, and nothing goes below one that is gone.
func TestNumbersOnce(t *testing.T) {
	p := line(t, 2)
	removes(t, p, 2)
	adds(t, p, 1, 3)
	removes(t, p, 3)
	removes(t, p, 1)
	refuses(t, p, 1, api.ErrNone)
	refuses(t, p, 2, api.ErrNone)
	adds(t, p, 0, 4)
	adds(t, p, 4, 5)
	for _, g := range []int{1, 2, 3} {
		if p.x.Live(g) || p.x.Parent(g) != -1 || p.x.Depth(g) != -1 {
			t.Errorf("%d is gone: %v, %d, %d", g, p.x.Live(g), p.x.Parent(g), p.x.Depth(g))
		}
		tells(t, "Chain", g, p.x.Chain(g))
		tells(t, "Below", g, p.x.Below(g))
		tells(t, "Kids", g, p.x.Kids(g))
	}
	tells(t, "Below", 0, p.x.Below(0), 0, 4, 5)
}

// What the chapter lists under 'What holds', with all that a chain, a depth and a list must be beside each other.
func chainsHold(t *testing.T, x *Tree) {
	t.Helper()
	for g := range x.Len() {
		chain := x.Chain(g)
		if len(chain) != x.Depth(g)+1 {
			t.Fatalf("Depth(%d): %d, of %v", g, x.Depth(g), chain)
		}
		if !x.Live(g) {
			continue
		}
		if chain[0] != g || chain[len(chain)-1] != 0 || len(chain) > api.MaxDepth {
			t.Fatalf("Chain(%d): %v", g, chain)
		}
		if g != 0 && (chain[1] != x.Parent(g) || !slices.Equal(chain[1:], x.Chain(x.Parent(g)))) {
			t.Fatalf("Chain(%d): %v, with %d for its parent", g, chain, x.Parent(g))
		}
		for other := range x.Len() {
			if slices.Contains(x.Below(other), g) != slices.Contains(chain, other) {
				t.Fatalf("Below(%d): %v, Chain(%d): %v", other, x.Below(other), g, chain)
			}
			if slices.Contains(x.Kids(other), g) != (g != 0 && x.Parent(g) == other) {
				t.Fatalf("Kids(%d): %v, Parent(%d): %d", other, x.Kids(other), g, x.Parent(g))
			}
		}
		if !slices.IsSorted(x.Below(g)) || !slices.IsSorted(x.Kids(g)) {
			t.Fatalf("%v, or %v, does not rise", x.Below(g), x.Kids(g))
		}
	}
}

// All ways to do four things to numbers at and beside those that there are.
func TestAllShortWays(t *testing.T) {
	const things, numbers = 4, 7
	ways := 1
	for range things {
		ways *= 2 * numbers
	}
	for way := range ways {
		p := start()
		for range things {
			g := way%numbers - 1
			way /= numbers
			if way%2 == 0 {
				p.add(t, g)
			} else {
				p.remove(t, g)
			}
			way /= 2
			if p.x.Len() != len(p.m) {
				t.Fatal(p.x.Len(), p.m)
			}
		}
		for g := -1; g < 6; g++ {
			holdsOf(t, p.x, p.m, g)
		}
	}
}

// Long ways, wide and deep, till there are 64 and further.
func TestLongWays(t *testing.T) {
	for seed := range 40 {
		next := steps(uint64(seed))
		p := start()
		for range 300 {
			g := int(next()>>8%uint64(p.x.Len()+2)) - 1
			switch next() >> 8 % 8 {
			case 0, 1, 2:
				p.remove(t, g)
			case 3:
				p.add(t, p.x.Len()-1)
			default:
				p.add(t, g)
			}
			if next()>>8%8 == 0 {
				holds(t, p.x, p.m)
			}
		}
		holds(t, p.x, p.m)
		chainsHold(t, p.x)
	}
}

func TestChainsHold(t *testing.T) {
	p := start()
	chainsHold(t, p.x)
	for g := 1; g < 64; g++ {
		adds(t, p, (g-1)/2, g) // two below each
	}
	chainsHold(t, p.x)
	for g := 33; g < 64; g += 2 {
		removes(t, p, g)
	}
	chainsHold(t, p.x)
}

// Two trees know nothing of each other, and one that is made later knows nothing of them.
func TestApart(t *testing.T) {
	p, q := start(), start()
	adds(t, p, 0, 1)
	adds(t, p, 1, 2)
	holds(t, q.x, told{nobody})
	refuses(t, q, 1, api.ErrNone)
	adds(t, q, 0, 1)
	adds(t, q, 0, 2)
	removes(t, p, 2)
	removes(t, p, 1)
	holds(t, q.x, told{nobody, 0, 0})
	removes(t, q, 1)
	for p.x.Len() < 64 {
		adds(t, p, 0, p.x.Len())
	}
	refuses(t, p, 0, api.ErrFull)
	adds(t, q, 2, 3)
	holds(t, q.x, told{nobody, gone, 0, 2})
	holds(t, start().x, told{nobody})
}

// lists are all that a tree answers as lists.
func lists(x *Tree) [][]int {
	var all [][]int
	for g := range x.Len() {
		all = append(all, x.Chain(g), x.Below(g), x.Kids(g))
	}
	return all
}

// What is written to an answer is seen neither in the tree nor in another answer.
func TestAnswersAreNew(t *testing.T) {
	p := line(t, 7)
	adds(t, p, 3, 8)
	adds(t, p, 0, 9)
	same := lists(p.x)
	for _, l := range lists(p.x) {
		whole := l[:cap(l)]
		for i := range whole {
			whole[i] = 1000 + i
		}
		holds(t, p.x, p.m)
	}
	if !slices.EqualFunc(same, lists(p.x), slices.Equal[[]int]) {
		t.Error("what was written to one answer is seen in another one")
	}
}

// An answer stays as it was when the tree is changed.
func TestAnswersStay(t *testing.T) {
	p := line(t, 5)
	adds(t, p, 2, 6)
	had := lists(p.x)
	var was [][]int
	for _, l := range had {
		was = append(was, slices.Clone(l))
	}
	removes(t, p, 5)
	removes(t, p, 6)
	removes(t, p, 4)
	for p.x.Len() < 64 {
		adds(t, p, 3, p.x.Len())
	}
	if !slices.EqualFunc(had, was, slices.Equal[[]int]) {
		t.Error("an answer was changed when the tree was")
	}
}
