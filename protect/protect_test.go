package protect

import (
	"math"
	"math/big"
	"slices"
	"testing"
)

const most = 1 << 40 // the greatest that can be used, or asked for

// Numbers that nothing can use, nor ask for.
var wrongAmounts = []int{
	math.MinInt, math.MinInt + 1, -1 << 62, -most - 1, -most, -most + 1, -1 << 32, -2, -1,
	most + 1, most + 2, 2 * most, 1 << 62, math.MaxInt - 1, math.MaxInt,
}

// Amounts at the ends, and beside them.
var edges = []int{0, 1, 2, most/2 - 1, most / 2, most/2 + 1, most - 2, most - 1, most}

// strangers are numbers that are no place of a list of n.
func strangers(n int) []int {
	return []int{
		math.MinInt, math.MinInt + 1, -1 << 32, -65, -64, -n - 1, -n, -2, -1,
		n, n + 1, 2*n + 1, n + 64, n + 1<<16, n + 1<<32, n + most, math.MaxInt - 1, math.MaxInt,
	}
}

// extremes are numbers that eff may hold, whatever it is that is used.
func extremes(use int) []int {
	return []int{
		math.MinInt, math.MinInt + 1, math.MinInt + use, math.MinInt + use + 1, -most - 1, -most, -use - 1, -use, -2, -1,
		0, 1, use - 1, use, use + 1, most - 1, most, most + 1, math.MaxInt - 1, math.MaxInt,
	}
}

// kids are those just below one.
func kids(l []Node, g int) []int {
	var list []int
	for k, n := range l {
		if k > 0 && n.Parent == g {
			list = append(list, k)
		}
	}
	return list
}

// lesser is what one comes to by what it uses and what it asks for.
func lesser(n Node) *big.Int {
	if n.Use < n.Own {
		return big.NewInt(int64(n.Use))
	}
	return big.NewInt(int64(n.Own))
}

// told is what the layer must tell of a valid list and a target, worked out from the target downward, where the program looks from each one upward.
type told struct {
	l      []Node
	target int
}

func (m told) effective() []int {
	eff := make([]int, len(m.l))
	for _, k := range kids(m.l, m.target) {
		eff[k] = int(lesser(m.l[k]).Int64())
		m.effectiveBelow(eff, k)
	}
	return eff
}

// effectiveBelow deals out to those below g what is protected of it.
func (m told) effectiveBelow(eff []int, g int) {
	sum := new(big.Int)
	for _, k := range kids(m.l, g) {
		sum.Add(sum, lesser(m.l[k]))
	}
	room := big.NewInt(int64(eff[g]))
	for _, k := range kids(m.l, g) {
		part := lesser(m.l[k])
		if sum.Cmp(room) > 0 {
			part.Mul(part, room)
			part.Quo(part, sum)
		}
		eff[k] = int(part.Int64())
		m.effectiveBelow(eff, k)
	}
}

// reach tells of each whether it is at or below the target, and whether it is held.
func (m told) reach(eff []int) (within, held []bool) {
	within, held = make([]bool, len(m.l)), make([]bool, len(m.l))
	var down func(g int, above bool)
	down = func(g int, above bool) {
		within[g], held[g] = true, above
		for _, k := range kids(m.l, g) {
			down(k, above || eff[k] >= m.l[k].Use)
		}
	}
	down(m.target, false)
	return within, held
}

func (m told) over(eff []int) []int {
	over := make([]int, len(m.l))
	within, held := m.reach(eff)
	for g, n := range m.l {
		if within[g] && !held[g] {
			over[g] = less(n.Use, eff[g])
		}
	}
	return over
}

// less is a less b, as a number of 64 bits that goes round, and 0 at least.
func less(a, b int) int {
	round := new(big.Int).Lsh(big.NewInt(1), 64)
	d := new(big.Int).Sub(big.NewInt(int64(a)), big.NewInt(int64(b)))
	d.Mod(d, round)
	if d.Sign() == 0 || d.BitLen() > 63 {
		return 0
	}
	return int(d.Int64())
}

// holds tells whether the layer tells of a valid list, and a target that there is, what it must, by its own eff and by these.
func holds(t *testing.T, l []Node, target int, effs ...[]int) {
	t.Helper()
	if !Valid(l) {
		t.Fatalf("%v is not valid", l)
	}
	m := told{l, target}
	eff := Effective(l, target)
	if want := m.effective(); !slices.Equal(eff, want) {
		t.Fatalf("Effective(%v, %d): %v, want %v", l, target, eff, want)
	}
	whatHolds(t, l, target, eff)
	for _, e := range append(effs, eff) {
		within, held := m.reach(e)
		for g := range l {
			if got := Held(l, e, target, g); got != held[g] || got && !within[g] {
				t.Fatalf("Held(%v, %v, %d, %d): %v", l, e, target, g, got)
			}
		}
		if got, want := Over(l, e, target), m.over(e); !slices.Equal(got, want) {
			t.Fatalf("Over(%v, %v, %d): %v, want %v", l, e, target, got, want)
		}
	}
}

// whatHolds is what the chapter lists so: those just below one are protected by no more than it is, together, where that one is below the target; none by more than it asks, or uses.
func whatHolds(t *testing.T, l []Node, target int, eff []int) {
	t.Helper()
	together := make([]int, len(l))
	for g, n := range l {
		if eff[g] < 0 || eff[g] > n.Own || eff[g] > n.Use {
			t.Fatalf("%v, %d: %d is protected by %d", l, target, g, eff[g])
		}
		if g > 0 {
			together[n.Parent] += eff[g]
		}
	}
	for g := range l {
		if g != target && together[g] > eff[g] {
			t.Fatalf("%v, %d: those below %d are protected by %d, it by %d", l, target, g, together[g], eff[g])
		}
	}
}

// holdsAll asks for each target.
func holdsAll(t *testing.T, l []Node, effs ...[]int) {
	t.Helper()
	for target := range l {
		holds(t, l, target, effs...)
	}
}

// nothing tells whether the layer tells nothing at all of a list with this target.
func nothing(t *testing.T, l []Node, target int) {
	t.Helper()
	if eff := Effective(l, target); eff != nil {
		t.Fatalf("Effective of %d, %d: %v", len(l), target, eff)
	}
	for _, eff := range [][]int{nil, make([]int, len(l)), same(len(l), most), same(len(l), math.MaxInt)} {
		nothingBy(t, l, eff, target)
	}
}

// nothingBy tells whether none is held, nor over, by this eff.
func nothingBy(t *testing.T, l []Node, eff []int, target int) {
	t.Helper()
	if over := Over(l, eff, target); over != nil {
		t.Fatalf("Over of %d, %d, %d: %v", len(l), len(eff), target, over)
	}
	for g := -2; g < len(l)+2; g++ {
		if Held(l, eff, target, g) {
			t.Fatalf("Held of %d, %d, %d, %d", len(l), len(eff), target, g)
		}
	}
}

// same is n numbers, each of them x.
func same(n, x int) []int { return slices.Repeat([]int{x}, n) }

// line is n nodes, each just below the one ahead.
func line(n, use, own int) []Node {
	var l []Node
	for g := range n {
		l = append(l, Node{g - 1, use, own})
	}
	return l
}

// fan is the first node, one that is protected by p below it, and below that one those that use, and ask for, so much.
func fan(p int, amounts ...int) []Node {
	l := []Node{{-1, most, 0}, {0, p, p}}
	for _, n := range amounts {
		l = append(l, Node{1, n, n})
	}
	return l
}

// deals tells whether those of a fan are protected by so much, also if what they ask for is more than they use, or the other way round.
func deals(t *testing.T, p int, amounts []int, want ...int) {
	t.Helper()
	asks, uses := fan(p, amounts...), fan(p, amounts...)
	for g := 2; g < len(asks); g++ {
		asks[g].Own = min(most, 3*asks[g].Own+1)
		uses[g].Use = min(most, 3*uses[g].Use+1)
	}
	asks[1].Own, uses[1].Use = most, most
	for _, l := range [][]Node{fan(p, amounts...), asks, uses} {
		if eff := Effective(l, 0); !slices.Equal(eff, append([]int{0, p}, want...)) {
			t.Errorf("%d by %v: %v", p, amounts, eff)
		}
		holdsAll(t, l)
	}
}

// steps is numbers that look mixed, the same ones each time.
func steps(seed uint64) func(n int) int {
	x := seed*2862933555777941757 + 3037000493
	return func(n int) int {
		x = x*6364136223846793005 + 1442695040888963407
		return int((x >> 33) % uint64(n))
	}
}

func TestExample(t *testing.T) {
	l := []Node{{-1, 12, 0}, {0, 8, 10}, {1, 6, 6}, {1, 6, 6}}
	eff := Effective(l, 0)
	if !slices.Equal(eff, []int{0, 8, 4, 4}) {
		t.Error(eff)
	}
	if over := Over(l, eff, 0); !slices.Equal(over, []int{12, 0, 0, 0}) {
		t.Error(over)
	}
	if over := Over(l, []int{0, 7, 4, 6}, 0); !slices.Equal(over, []int{12, 1, 2, 0}) {
		t.Error(over)
	}
	if Held(l, eff, 0, 0) || !Held(l, eff, 0, 1) || !Held(l, eff, 0, 2) || Held(l, eff, 1, 2) {
		t.Error("Held")
	}
	holdsAll(t, l)
}

// At most 64 nodes, of whatever form; one too many is as wrong as many.
func TestLengths(t *testing.T) {
	for n := range 65 {
		star := make([]Node, n)
		for g := range star {
			star[g] = Node{min(0, g-1), g, n - g}
		}
		for _, l := range [][]Node{line(n, 5, 3), star} {
			if !Valid(l) {
				t.Error(n)
			}
			if len(Effective(l, 0)) != n {
				t.Error(n, Effective(l, 0))
			}
		}
	}
	for _, n := range []int{65, 66, 127, 128, 129, 1 << 16, 1<<16 + 1} {
		l := line(n, 5, 3)
		if Valid(l) {
			t.Error(n)
		}
		for _, target := range []int{0, 1, 63, 64, n - 1} {
			nothing(t, l[:min(n, 70)], target)
			if Effective(l, target) != nil || Over(l, make([]int, n), target) != nil || Held(l, same(n, most), 0, target) {
				t.Error(n, target)
			}
		}
	}
}

// A list without nodes may be, but there is no target.
func TestNoNode(t *testing.T) {
	for _, l := range [][]Node{nil, {}} {
		if !Valid(l) {
			t.Error("not valid")
		}
		for _, target := range append(strangers(0), 0) {
			nothing(t, l, target)
			nothingBy(t, l, []int{0}, target)
		}
	}
}

func TestOneNode(t *testing.T) {
	for _, use := range edges {
		for _, own := range edges {
			l := []Node{{-1, use, own}}
			holds(t, l, 0, []int{0}, []int{use}, []int{most}, []int{math.MaxInt}, []int{math.MinInt})
			if eff := Effective(l, 0); !slices.Equal(eff, []int{0}) {
				t.Error(use, own, eff)
			}
			if Held(l, []int{use}, 0, 0) || Held(l, []int{most}, 0, 0) {
				t.Error(use, own, "Held")
			}
		}
	}
}

func TestFirstParent(t *testing.T) {
	for _, n := range []int{1, 2, 64} {
		l := line(n, 5, 3)
		for _, parent := range append(strangers(n), 0, 1, n-1) {
			l[0].Parent = parent
			if Valid(l) != (parent == -1) {
				t.Error(n, parent)
			}
			if parent != -1 {
				nothing(t, l, 0)
				nothing(t, l, n-1)
			}
		}
	}
}

// Each other one's parent stands ahead of it: just ahead, or far ahead.
func TestOtherParents(t *testing.T) {
	for _, n := range []int{2, 3, 64} {
		for g := 1; g < n; g++ {
			for parent := range n {
				l := line(n, 5, 3)
				l[g].Parent = parent
				if Valid(l) != (parent < g) {
					t.Error(n, g, parent)
				}
				if parent >= g {
					nothing(t, l, 0)
					nothing(t, l, g)
				}
			}
			for _, parent := range strangers(n) {
				l := line(n, 5, 3)
				l[g].Parent = parent
				if Valid(l) {
					t.Error(n, g, parent)
				}
				nothing(t, l, 0)
				nothing(t, l, n-1)
			}
		}
	}
}

func TestAmounts(t *testing.T) {
	for _, n := range []int{1, 2, 64} {
		for _, g := range []int{0, n / 2, n - 1} {
			for _, x := range edges {
				l := line(n, 5, 3)
				l[g].Use = x
				if !Valid(l) {
					t.Error(n, g, "uses", x)
				}
				l[g].Own = x
				if !Valid(l) {
					t.Error(n, g, "uses, and asks for", x)
				}
			}
			for _, x := range wrongAmounts {
				use, own := line(n, 5, 3), line(n, 5, 3)
				use[g].Use, own[g].Own = x, x
				for _, l := range [][]Node{use, own} {
					if Valid(l) {
						t.Error(l[g])
					}
					nothing(t, l, 0)
					nothing(t, l, n-1)
				}
			}
		}
	}
}

func TestTargets(t *testing.T) {
	for _, n := range []int{1, 2, 3, 63, 64} {
		l := line(n, 5, 3)
		for _, target := range []int{0, 1, n - 2, n - 1} {
			if target >= 0 && target < n {
				holds(t, l, target, same(n, 5), same(n, 4))
			} else {
				nothing(t, l, target)
			}
		}
		for _, target := range strangers(n) {
			nothing(t, l, target)
		}
	}
}

// Of the target and of all that are not below it nothing is protected: of those above it, beside it, below those, ahead and behind.
func TestNotBelow(t *testing.T) {
	l := []Node{{-1, 90, 90}, {0, 50, 50}, {0, 40, 40}, {1, 9, 8}, {2, 20, 30}, {1, 7, 7}, {4, 11, 6}, {2, 3, 4}, {0, 6, 6}}
	for target, want := range [][]int{
		{0, 50, 40, 8, 20, 7, 6, 3, 6},
		{0, 0, 0, 8, 0, 7, 0, 0, 0},
		{0, 0, 0, 0, 20, 0, 6, 3, 0},
		{0, 0, 0, 0, 0, 0, 0, 0, 0},
		{0, 0, 0, 0, 0, 0, 6, 0, 0},
	} {
		if eff := Effective(l, target); !slices.Equal(eff, want) {
			t.Error(target, eff)
		}
	}
	holdsAll(t, l, same(9, 7), same(9, 0))
}

// What is just below the target has the lesser of both, however many they are and whatever the target uses and asks for.
func TestJustBelow(t *testing.T) {
	for _, first := range []Node{{-1, 0, 0}, {-1, 0, most}, {-1, most, 0}, {-1, 7, 1}} {
		for _, use := range edges {
			for _, own := range edges {
				l := []Node{first, {0, use, own}, {0, own, use}, {0, most, own}, {0, most, most}}
				x := min(use, own)
				if eff := Effective(l, 0); !slices.Equal(eff, []int{0, x, x, own, most}) {
					t.Error(l, eff)
				}
				holdsAll(t, l)
			}
		}
		many := []Node{first}
		for range 63 {
			many = append(many, Node{0, most, most})
		}
		if eff := Effective(many, 0); !slices.Equal(eff, append([]int{0}, same(63, most)...)) {
			t.Error(first, eff)
		}
	}
	// The same ones, below one that is not the target, have no more than it has.
	l := []Node{{-1, most, 0}, {0, 7, 8}, {1, 6, 7}, {1, 9, 8}}
	if eff := Effective(l, 1); !slices.Equal(eff, []int{0, 0, 6, 8}) {
		t.Error(eff)
	}
	if eff := Effective(l, 0); !slices.Equal(eff, []int{0, 7, 3, 4}) {
		t.Error(eff)
	}
}

// What those beside one come to is by the lesser of both: by what they use where they ask for more, not by what they ask for, and by what they ask for where they use more.
func TestSum(t *testing.T) {
	l := []Node{{-1, 99, 0}, {0, 10, 10}, {1, 5, most}, {1, most, 5}}
	if eff := Effective(l, 0); !slices.Equal(eff, []int{0, 10, 5, 5}) {
		t.Error(eff)
	}
	holdsAll(t, l)
	l = []Node{{-1, 99, 0}, {0, 10, 10}, {1, 0, most}, {1, most, 0}, {1, 10, 11}}
	if eff := Effective(l, 0); !slices.Equal(eff, []int{0, 10, 0, 0, 10}) {
		t.Error(eff)
	}
	holdsAll(t, l)
	// Those two levels below, and those below another one, are not of the sum.
	l = []Node{{-1, 99, 0}, {0, 10, 10}, {1, 10, 10}, {2, 9, 9}, {0, 7, 7}, {4, 7, 7}, {2, 6, 6}}
	if eff := Effective(l, 0); !slices.Equal(eff, []int{0, 10, 10, 6, 7, 7, 4}) {
		t.Error(eff)
	}
	holdsAll(t, l)
}

// What is left of one below the next goes on by what it is, not by what it asks for: 12 by 6 and 12 is 4 and 8, of which 9 and 3 have 6 and 2.
func TestLevels(t *testing.T) {
	l := []Node{{-1, 99, 0}, {0, 12, 12}, {1, 6, 6}, {1, 12, 12}, {3, 9, 9}, {3, 3, 3}, {2, 1, 9}, {2, 5, 1}, {4, 5, 6}, {4, 7, 7}}
	if eff := Effective(l, 0); !slices.Equal(eff, []int{0, 12, 4, 8, 6, 2, 1, 1, 2, 3}) {
		t.Error(eff)
	}
	holdsAll(t, l)
	// What they are left with is less than 4, but they come to 5, so that each has its share of 4.
	l = []Node{{-1, 99, 0}, {0, 4, 4}, {1, 5, 5}, {2, 4, 4}, {2, 1, 1}}
	if eff := Effective(l, 0); !slices.Equal(eff, []int{0, 4, 4, 3, 0}) {
		t.Error(eff)
	}
	holdsAll(t, l)
}

// A sum that is no more than what their parent has leaves each what it comes to; one more, and each has its part.
func TestRoom(t *testing.T) {
	deals(t, 0, nil)
	deals(t, 5, nil)
	deals(t, 10, []int{4, 5}, 4, 5)
	deals(t, 10, []int{4, 6}, 4, 6)
	deals(t, 10, []int{5, 6}, 4, 5)
	deals(t, 10, []int{4, 7}, 3, 6)
	deals(t, 10, []int{10}, 10)
	deals(t, 10, []int{11}, 10)
	deals(t, 10, []int{9}, 9)
	deals(t, 1, []int{1, 1}, 0, 0)
	deals(t, 1, []int{1, 0}, 1, 0)
	deals(t, 0, []int{0, 0}, 0, 0)
	deals(t, 0, []int{1, 0}, 0, 0)
	deals(t, 0, []int{most, most, 1}, 0, 0, 0)
	deals(t, most, []int{most}, most)
	deals(t, most, []int{most - 1, 1}, most-1, 1)
	deals(t, most, []int{most, 1}, most-1, 0)
	deals(t, most-1, []int{most, 0}, most-1, 0)
}

// A quotient is rounded down, however near the next number it is, and one that comes out even is as it is.
func TestRounding(t *testing.T) {
	deals(t, 10, []int{6, 6, 6}, 3, 3, 3)
	deals(t, 9, []int{6, 6, 6}, 3, 3, 3)
	deals(t, 8, []int{6, 6, 6}, 2, 2, 2)
	deals(t, 8, []int{6, 6}, 4, 4)
	deals(t, 99, []int{99, 1}, 98, 0)
	deals(t, 100, []int{99, 101}, 49, 50)
	deals(t, 100, []int{100, 50, 50}, 50, 25, 25)
	deals(t, 7, []int{1, 2, 3, 4}, 0, 1, 2, 2)
}

// Products that go beyond 64 bits, and those just beside.
func TestProducts(t *testing.T) {
	deals(t, most, []int{most, most}, most/2, most/2)
	deals(t, most-1, []int{most, most}, most/2-1, most/2-1)
	deals(t, most, []int{most, most, most}, most/3, most/3, most/3)
	deals(t, most, []int{most, most / 2, most / 2}, most/2, most/4, most/4)
	deals(t, 1<<32, []int{1 << 31, 1 << 31, 1}, 1<<31-1, 1<<31-1, 0)
	deals(t, 1<<32, []int{1 << 32, 1}, 1<<32-1, 0)
	deals(t, 1<<32, []int{1 << 32, 1 << 32}, 1<<31, 1<<31)
	deals(t, 1<<32-1, []int{1<<32 + 1, 1}, 1<<32-2, 0)
	deals(t, 1<<24, []int{most, most}, 1<<23, 1<<23)
	deals(t, 1<<23, []int{most, most}, 1<<22, 1<<22)
	deals(t, 3, []int{most, most, 1}, 1, 1, 0)
	for _, p := range append(edges, 1<<23, 1<<24-1, 1<<24, 1<<31, 1<<32-1, 1<<32) {
		for _, a := range append(edges, 1<<23-1, 1<<24+1, 1<<31, 1<<32+1) {
			for _, b := range edges {
				holdsAll(t, fan(p, a, b))
				holdsAll(t, fan(p, a, b, most, a))
			}
		}
	}
}

// As many just below one as there can be, and chains as long as there can be.
func TestGreatLists(t *testing.T) {
	deals(t, 62, same(62, 1), same(62, 1)...)
	deals(t, 61, same(62, 1), same(62, 0)...)
	deals(t, most, same(62, most), same(62, most/62)...)
	deals(t, 124, same(62, 3), same(62, 2)...)
	l := line(64, most, most)
	if eff := Effective(l, 0); !slices.Equal(eff, append([]int{0}, same(63, most)...)) {
		t.Error(eff)
	}
	holdsAll(t, l, same(64, most), same(64, most-1))
	if eff := Effective(l, 63); !slices.Equal(eff, make([]int, 64)) {
		t.Error(eff)
	}
	// Each has no more than the one above it.
	for g := range l {
		l[g].Own = most - g
	}
	for g, n := range Effective(l, 0) {
		if g > 0 && n != most-g {
			t.Error(g, n)
		}
	}
	slices.Reverse(l)
	for g := range l {
		l[g].Parent = g - 1
	}
	if eff := Effective(l, 0); !slices.Equal(eff, append([]int{0}, same(63, most-62)...)) {
		t.Error(eff)
	}
	holdsAll(t, l)
}

// The one that uses no more than is protected of it holds all below it; where the target is that one, or is below it, it does not count.
func TestHeldAlongALine(t *testing.T) {
	for _, n := range []int{1, 2, 3, 5, 64} {
		l := line(n, 9, 9)
		for at := range n {
			for _, x := range []int{8, 9, 10, math.MaxInt} {
				eff := same(n, 8)
				eff[at] = x
				for target := range n {
					for g := range n {
						want := x >= 9 && target < at && at <= g
						if Held(l, eff, target, g) != want {
							t.Fatal(n, at, x, target, g)
						}
					}
				}
			}
		}
	}
}

// One that is held by another one beside it is not, nor one above that.
func TestHeldBeside(t *testing.T) {
	l := []Node{{-1, 9, 9}, {0, 9, 9}, {0, 9, 9}, {1, 9, 9}, {2, 9, 9}, {1, 9, 9}, {3, 9, 9}}
	for _, x := range []struct {
		eff    []int
		target int
		want   []bool
	}{
		{[]int{9, 9, 8, 8, 8, 8, 8}, 0, []bool{false, true, false, true, false, true, true}},
		{[]int{9, 8, 9, 8, 8, 8, 8}, 0, []bool{false, false, true, false, true, false, false}},
		{[]int{9, 8, 8, 9, 8, 8, 8}, 0, []bool{false, false, false, true, false, false, true}},
		{[]int{9, 9, 9, 8, 8, 9, 8}, 1, []bool{false, false, false, false, false, true, false}},
		{[]int{9, 9, 9, 9, 9, 9, 9}, 1, []bool{false, false, false, true, false, true, true}},
		{[]int{9, 9, 9, 9, 9, 9, 9}, 3, []bool{false, false, false, false, false, false, true}},
		{[]int{9, 9, 9, 9, 9, 9, 9}, 6, make([]bool, 7)},
	} {
		for g, want := range x.want {
			if Held(l, x.eff, x.target, g) != want {
				t.Error(x.eff, x.target, g)
			}
		}
		holdsAll(t, l, x.eff)
	}
}

// One that uses nothing is held, by whatever is no less than 0.
func TestUsesNothing(t *testing.T) {
	l := []Node{{-1, 0, 0}, {0, 0, 5}, {1, 0, 0}}
	for _, x := range []struct {
		eff  int
		want bool
	}{{math.MinInt, false}, {-1, false}, {0, true}, {1, true}, {math.MaxInt, true}} {
		for g := 1; g < 3; g++ {
			if Held(l, same(3, x.eff), 0, g) != x.want || Held(l, same(3, x.eff), g, g) {
				t.Error(x, g)
			}
		}
	}
	holdsAll(t, l)
}

// Held and Over take any numbers, not just what Effective answers.
func TestAnyEff(t *testing.T) {
	for _, use := range edges {
		l := []Node{{-1, most - use, 0}, {0, use, 0}, {1, use / 2, most}, {0, most, use}}
		for _, x := range extremes(use) {
			effs := [][]int{same(4, x)}
			for g := range l {
				eff := Effective(l, 0)
				eff[g] = x
				rest := same(4, -1)
				rest[g] = x
				effs = append(effs, eff, rest)
			}
			holdsAll(t, l, effs...)
		}
	}
	l := []Node{{-1, 5, 0}, {0, 5, 0}}
	for x, want := range map[int][]int{
		-7: {12, 12}, -1: {6, 6}, 0: {5, 5}, 4: {1, 1}, 5: {0, 0}, 6: {0, 0}, math.MaxInt: {0, 0},
		math.MinInt + 6: {math.MaxInt, math.MaxInt}, math.MinInt + 5: {0, 0}, math.MinInt: {0, 0},
	} {
		if over := Over(l, same(2, x), 0); !slices.Equal(over, want) {
			t.Error(x, over)
		}
	}
}

// What the target uses above its eff is told, too; of what is held, and of what is not at or below the target, nothing.
func TestOver(t *testing.T) {
	l := []Node{{-1, 100, 0}, {0, 50, 0}, {1, 30, 0}, {0, 40, 0}, {3, 40, 0}, {2, 30, 0}}
	for _, x := range []struct {
		eff    []int
		target int
		want   []int
	}{
		{[]int{0, 0, 0, 0, 0, 0}, 0, []int{100, 50, 30, 40, 40, 30}},
		{[]int{1, 2, 3, 4, 5, 6}, 0, []int{99, 48, 27, 36, 35, 24}},
		{[]int{1, 2, 3, 4, 5, 6}, 1, []int{0, 48, 27, 0, 0, 24}},
		{[]int{1, 2, 3, 4, 5, 6}, 3, []int{0, 0, 0, 36, 35, 0}},
		{[]int{1, 2, 3, 4, 5, 6}, 5, []int{0, 0, 0, 0, 0, 24}},
		{[]int{100, 50, 3, 4, 5, 6}, 0, []int{0, 0, 0, 36, 35, 0}},
		{[]int{101, 51, 3, 4, 5, 6}, 1, []int{0, 0, 27, 0, 0, 24}},
		{[]int{99, 49, 30, 40, 39, 29}, 0, []int{1, 1, 0, 0, 0, 0}},
		{[]int{99, 49, 29, 39, 40, 30}, 0, []int{1, 1, 1, 1, 0, 0}},
	} {
		if over := Over(l, x.eff, x.target); !slices.Equal(over, x.want) {
			t.Error(x.eff, x.target, over)
		}
		holdsAll(t, l, x.eff)
	}
}

// As many eff as there are nodes, neither less nor more.
func TestCountOfEff(t *testing.T) {
	for _, n := range []int{1, 2, 3, 63, 64} {
		l := line(n, 5, 3)
		for _, k := range []int{0, 1, n - 2, n - 1, n + 1, n + 2, 2 * n, n + 64, n + 256, n + 1<<16} {
			if k >= 0 && k != n {
				for _, x := range []int{0, 5, most} {
					nothingBy(t, l, same(k, x), 0)
					nothingBy(t, l, same(k, x), n-1)
				}
			}
		}
	}
}

// Numbers that are no places are not held, nor those that are not at or below the target.
func TestHeldOfStrangers(t *testing.T) {
	for _, n := range []int{1, 2, 64} {
		l, eff := line(n, 5, 5), same(n, most)
		for _, g := range strangers(n) {
			for target := range n {
				if Held(l, eff, target, g) {
					t.Error(n, target, g)
				}
			}
			for _, target := range strangers(n) {
				if Held(l, eff, target, g) || Held(l, eff, target, target) || Held(l, eff, target, 0) || Held(l, eff, target, n-1) {
					t.Error(n, target, g)
				}
			}
		}
	}
}

// A wrong node anywhere, also one that has nothing to do with the target, leaves nothing to be asked.
func TestWrongAnywhere(t *testing.T) {
	for _, n := range []int{1, 2, 4, 64} {
		for g := range n {
			for _, wrong := range []Node{{g, 5, 3}, {g + 1, 5, 3}, {-2, 5, 3}, {g - 1, -1, 3}, {g - 1, most + 1, 3}, {g - 1, 5, -1}, {g - 1, 5, most + 1}} {
				l := line(n, 5, 3)
				l[g] = wrong
				if Valid(l) {
					t.Fatal(n, g, wrong)
				}
				for _, target := range []int{0, g, n / 2, n - 1} {
					nothing(t, l, target)
				}
			}
		}
	}
}

// Arguments are not changed, nor what stands behind them in their memory; what is answered is the caller's own.
func TestArguments(t *testing.T) {
	nodes := []Node{{-1, 100, 0}, {0, 50, 60}, {1, 30, 40}, {1, 30, 30}, {7, 8, 9}, {1, 2, 3}}
	numbers := []int{1, 45, 30, 20, 77, 78, 79}
	wasNodes, wasNumbers := slices.Clone(nodes), slices.Clone(numbers)
	l, eff := nodes[:4], numbers[:4]
	for target := -1; target < 6; target++ {
		for _, n := range []int{3, 4, 5} {
			Valid(nodes[:n])
			Effective(nodes[:n], target)
			Over(nodes[:n], eff, target)
			Over(l, numbers[:n], target)
			for g := -1; g < 6; g++ {
				Held(nodes[:n], numbers[:n], target, g)
			}
		}
	}
	first, over := Effective(l, 0), Over(l, eff, 0)
	wasFirst, wasOver := slices.Clone(first), slices.Clone(over)
	second, again := Effective(l, 0), Over(l, eff, 0)
	fill(second, -3)
	fill(again, -4)
	if !slices.Equal(first, wasFirst) || !slices.Equal(over, wasOver) {
		t.Error(first, over)
	}
	if !slices.Equal(nodes, wasNodes) || !slices.Equal(numbers, wasNumbers) {
		t.Error(nodes, numbers)
	}
	own := Over(l, first, 0)
	fill(own, -5)
	if !slices.Equal(first, wasFirst) {
		t.Error(first)
	}
	clear(nodes)
	fill(numbers, -6)
	if !slices.Equal(first, wasFirst) || !slices.Equal(over, wasOver) {
		t.Error(first, over)
	}
}

// fill writes to all of a list's memory.
func fill(l []int, x int) {
	l = l[:cap(l)]
	for i := range l {
		l[i] = x
	}
}

// What was asked of other lists ahead is of no matter.
func TestAgain(t *testing.T) {
	a, b := fan(8, 6, 6), line(64, most, most)
	first := Effective(a, 0)
	Effective(b, 0)
	Over(b, same(64, 1), 5)
	Held(b, same(64, most), 0, 63)
	Valid(make([]Node, 65))
	if again := Effective(a, 0); !slices.Equal(first, again) {
		t.Error(first, again)
	}
	if over := Over(a, first, 0); !slices.Equal(over, []int{most, 0, 0, 0}) {
		t.Error(over)
	}
}

// shapes is all lists of parents of n nodes.
func shapes(n int) [][]int {
	l := [][]int{{-1}}
	for g := 1; g < n; g++ {
		var next [][]int
		for _, s := range l {
			for p := range g {
				next = append(next, append(slices.Clone(s), p))
			}
		}
		l = next
	}
	return l
}

// digits is n digits of x to the base b.
func digits(x, b, n int) []int {
	l := make([]int, n)
	for i := range l {
		l[i] = x % b
		x /= b
	}
	return l
}

// All lists of four nodes of which those behind the first one use, and ask for, up to 3.
func TestAllSmall(t *testing.T) {
	for _, parents := range shapes(4) {
		for code := range 1 << 12 {
			d := digits(code, 4, 6)
			holdsAll(t, []Node{{-1, 2, 1}, {parents[1], d[0], d[1]}, {parents[2], d[2], d[3]}, {parents[3], d[4], d[5]}})
		}
	}
}

// All eff that are one less than what is used, just that, or one more.
func TestAllEffs(t *testing.T) {
	for _, parents := range shapes(5) {
		l := make([]Node, 5)
		for g, p := range parents {
			l[g] = Node{p, 1, 0}
		}
		for code := range 243 {
			holdsAll(t, l, digits(code, 3, 5))
		}
	}
}

// mixed is a valid list of some form: many just below few, or long chains, with amounts that are small, or at the ends.
func mixed(mix func(int) int) []Node {
	n, wide, small := 1+mix(64), 1+mix(8), mix(2) == 0
	amount := func() int {
		if small {
			return mix(12)
		}
		if mix(3) == 0 {
			return edges[mix(len(edges))]
		}
		return mix(1<<20)<<20 + mix(1<<20)
	}
	l := []Node{{-1, amount(), amount()}}
	for g := 1; g < n; g++ {
		parent := mix(g)
		if mix(wide) == 0 {
			parent = max(0, g-1-mix(3))
		}
		l = append(l, Node{parent, amount(), amount()})
	}
	return l
}

func TestMixed(t *testing.T) {
	for seed := range 300 {
		mix := steps(uint64(seed))
		l := mixed(mix)
		eff := make([]int, len(l))
		for g := range eff {
			near := extremes(l[g].Use)
			eff[g] = near[mix(len(near))]
		}
		holdsAll(t, l, eff)
	}
}
