package share

import (
	"math"
	"math/big"
	"slices"
	"testing"
)

const (
	most  = 1 << 40 // the greatest weight
	mostN = 1 << 20 // the most that can be split
)

// Numbers that can't be split.
var wrongNumbers = []int{
	math.MinInt, math.MinInt + 1, -1 << 62, -most, -1 << 32, -mostN - 1, -mostN, -mostN + 1, -64, -2, -1,
	mostN + 1, mostN + 2, 2*mostN - 1, 2 * mostN, 1 << 31, 1 << 32, 1<<32 + 1, most, most + 1, 1 << 62, math.MaxInt - 1, math.MaxInt,
}

// Numbers that no weight can be.
var wrongWeights = []int{
	math.MinInt, math.MinInt + 1, -1 << 62, -most - 1, -most, -most + 1, -mostN, -1 << 32, -2, -1,
	most + 1, most + 2, 2*most - 1, 2 * most, 1 << 62, math.MaxInt - 1, math.MaxInt,
}

// Numbers that can be split, at the ends, and beside them.
var edges = []int{0, 1, 2, 3, 63, 64, 65, mostN / 2, mostN - 2, mostN - 1, mostN}

// Weights at the ends, and beside them.
var edgeWeights = []int{0, 1, 2, mostN - 1, mostN, mostN + 1, most / 2, most - 2, most - 1, most}

// Lists of weights of some forms, all of which may be.
func someWeights() [][]int {
	return [][]int{
		nil, {}, {0}, {1}, {2}, {most}, {0, 0}, {1, 1}, {most, most}, {0, 1}, {most, 0}, {most, 1}, {most - 1, most},
		{1, 1, 1}, {2, 9, 1}, {1, 2, 3}, {3, 2, 1}, {0, 5, 0}, {7, 7, 6, 7}, {mostN, 1, mostN}, {mostN / 2, mostN / 2},
		rising(64), falling(64), same(64, 0), same(64, 1), same(64, most), same(63, 3),
	}
}

// same is n numbers, each of them x.
func same(n, x int) []int { return slices.Repeat([]int{x}, n) }

// rising is 1, 2, and so on, n numbers.
func rising(n int) []int {
	l := make([]int, n)
	for i := range l {
		l[i] = i + 1
	}
	return l
}

// falling is n numbers down to 1.
func falling(n int) []int {
	l := rising(n)
	slices.Reverse(l)
	return l
}

// with is a list with one more number at a place.
func with(l []int, at, x int) []int { return slices.Insert(slices.Clone(l), at, x) }

// total is what a list comes to, of numbers that are small enough for it.
func total(l []int) *big.Int {
	sum := new(big.Int)
	for _, n := range l {
		sum.Add(sum, big.NewInt(int64(n)))
	}
	return sum
}

// toldSplit is what Split must tell of what may be asked: what is left is given one by one, each time looked for anew.
func toldSplit(n int, weights []int) []int {
	parts, sum := make([]int, len(weights)), total(weights)
	if sum.Sign() == 0 {
		return parts
	}
	remainders, left := make([]*big.Int, len(weights)), n
	for i, w := range weights {
		product := new(big.Int).Mul(big.NewInt(int64(n)), big.NewInt(int64(w)))
		part := new(big.Int)
		part.QuoRem(product, sum, product)
		parts[i], remainders[i] = int(part.Int64()), product
		left -= parts[i]
	}
	for range left {
		first := 0
		for i, r := range remainders {
			if r.Cmp(remainders[first]) > 0 {
				first = i
			}
		}
		parts[first]++
		remainders[first] = big.NewInt(-1)
	}
	return parts
}

// toldCapped is what Capped must tell of what may be asked, word by word of the chapter, and how many times it went through.
func toldCapped(n int, weights []int) ([]int, int) {
	parts, left, times := make([]int, len(weights)), n, 0
	for {
		rests := slices.Clone(weights)
		for i := range rests {
			rests[i] -= parts[i]
		}
		if left == 0 || total(rests).Sign() == 0 {
			return parts, times
		}
		times++
		for i, more := range toldSplit(left, rests) {
			parts[i] += min(more, rests[i])
			left -= min(more, rests[i])
		}
	}
}

// holds tells whether the layer tells what it must, of an n and weights that may be.
func holds(t *testing.T, n int, weights []int) {
	t.Helper()
	was := slices.Clone(weights)
	split, capped := Split(n, weights), Capped(n, weights)
	if want := toldSplit(n, weights); !slices.Equal(split, want) {
		t.Fatalf("Split(%d, %v): %v, want %v", n, weights, split, want)
	}
	if want, times := toldCapped(n, weights); !slices.Equal(capped, want) || times > 1 {
		t.Fatalf("Capped(%d, %v): %v, want %v, %d times through", n, weights, capped, want, times)
	}
	if sum := Sum(weights); big.NewInt(int64(sum)).Cmp(total(weights)) != 0 {
		t.Fatalf("Sum(%v): %d", weights, sum)
	}
	whatHolds(t, n, weights, split, capped)
	if !slices.Equal(weights, was) {
		t.Fatalf("%d, %v: the weights are %v", n, was, weights)
	}
}

// whatHolds is what the chapter lists so, and what its words come to: they give n together, or all that they weigh; who weighs more gives no less; who weighs nothing gives nothing, and is of no matter.
func whatHolds(t *testing.T, n int, weights, split, capped []int) {
	t.Helper()
	all := Sum(weights)
	if all == 0 && Sum(split) != 0 || all > 0 && Sum(split) != n {
		t.Fatalf("Split(%d, %v): %v together", n, weights, split)
	}
	if Sum(capped) != min(n, all) {
		t.Fatalf("Capped(%d, %v): %v together", n, weights, capped)
	}
	var heavy, splitOfHeavy, cappedOfHeavy []int
	for i, w := range weights {
		if split[i] < 0 || capped[i] < 0 || capped[i] > w || w == 0 && split[i] != 0 {
			t.Fatalf("%d, %v: %v, %v at %d", n, weights, split, capped, i)
		}
		for j, other := range weights {
			if w > other && (split[i] < split[j] || capped[i] < capped[j]) {
				t.Fatalf("%d, %v: %v, %v at %d and %d", n, weights, split, capped, i, j)
			}
		}
		if w > 0 {
			heavy, splitOfHeavy, cappedOfHeavy = append(heavy, w), append(splitOfHeavy, split[i]), append(cappedOfHeavy, capped[i])
		}
	}
	if l := Split(n, heavy); !slices.Equal(l, splitOfHeavy) {
		t.Fatalf("Split(%d, %v): %v, of %v %v", n, weights, split, heavy, l)
	}
	if l := Capped(n, heavy); !slices.Equal(l, cappedOfHeavy) {
		t.Fatalf("Capped(%d, %v): %v, of %v %v", n, weights, capped, heavy, l)
	}
}

// nothing tells whether nothing comes of an n and weights of which one may not be.
func nothing(t *testing.T, n int, weights []int) {
	t.Helper()
	was := slices.Clone(weights)
	if l := Split(n, weights); l != nil {
		t.Fatalf("Split of %d by %d: %v", n, len(weights), l)
	}
	if l := Capped(n, weights); l != nil {
		t.Fatalf("Capped of %d by %d: %v", n, len(weights), l)
	}
	if !slices.Equal(weights, was) {
		t.Fatalf("%d: the weights are %v", n, weights)
	}
}

// splits tells whether Split gives just that.
func splits(t *testing.T, n int, weights []int, want ...int) {
	t.Helper()
	if l := Split(n, weights); !slices.Equal(l, want) {
		t.Errorf("Split(%d, %v): %v", n, weights, l)
	}
	holds(t, n, weights)
}

// caps tells whether Capped gives just that.
func caps(t *testing.T, n int, weights []int, want ...int) {
	t.Helper()
	if l := Capped(n, weights); !slices.Equal(l, want) {
		t.Errorf("Capped(%d, %v): %v", n, weights, l)
	}
	holds(t, n, weights)
}

// steps is numbers that look mixed, the same ones each time.
func steps(seed uint64) func(n int) int {
	x := seed*2862933555777941757 + 3037000493
	return func(n int) int {
		x = x*6364136223846793005 + 1442695040888963407
		return int((x >> 20) % uint64(n))
	}
}

func TestExamples(t *testing.T) {
	splits(t, 10, []int{1, 1, 1}, 4, 3, 3)
	splits(t, 10, []int{2, 9, 1}, 2, 7, 1)
	caps(t, 10, []int{2, 9, 1}, 2, 7, 1)
	caps(t, 10, []int{1, 1, 1}, 1, 1, 1)
}

func TestNumbers(t *testing.T) {
	for _, weights := range someWeights() {
		for _, n := range edges {
			holds(t, n, weights)
			if len(Split(n, weights)) != len(weights) || len(Capped(n, weights)) != len(weights) {
				t.Error(n, weights)
			}
		}
		for _, n := range wrongNumbers {
			nothing(t, n, weights)
		}
	}
}

// Up to 64 weights may be; one too many is as wrong as many, whatever they are.
func TestCounts(t *testing.T) {
	for count := range 65 {
		for _, n := range []int{0, 1, count, mostN} {
			for _, weights := range [][]int{same(count, 0), same(count, 1), same(count, most), rising(count), falling(count)} {
				holds(t, n, weights)
			}
		}
	}
	for _, count := range []int{65, 66, 127, 128, 129, 256, 1 << 16, 1<<16 + 1} {
		for _, n := range []int{-1, 0, 1, count, mostN, mostN + 1} {
			for _, weights := range [][]int{same(count, 0), same(count, 1), same(count, most), with(same(count-1, 0), count-1, -1), with(same(count-1, 0), 0, 1)} {
				nothing(t, n, weights)
			}
		}
	}
}

// Nothing is given where there is none to give: also where n may not be.
func TestNoWeights(t *testing.T) {
	for _, weights := range [][]int{nil, {}, make([]int, 0, 70)} {
		for _, n := range append(slices.Clone(wrongNumbers), edges...) {
			if l := Split(n, weights); len(l) != 0 {
				t.Error(n, l)
			}
			if l := Capped(n, weights); len(l) != 0 {
				t.Error(n, l)
			}
		}
	}
}

// One weight gets all: of Capped no more than it is.
func TestOneWeight(t *testing.T) {
	for _, n := range edges {
		splits(t, n, []int{0}, 0)
		caps(t, n, []int{0}, 0)
		for _, w := range edgeWeights[1:] {
			splits(t, n, []int{w}, n)
			caps(t, n, []int{w}, min(n, w))
		}
	}
}

func TestTwoWeights(t *testing.T) {
	for _, n := range edges {
		for _, a := range edgeWeights {
			for _, b := range edgeWeights {
				holds(t, n, []int{a, b})
				holds(t, n, []int{a, 5, b})
				holds(t, n, []int{a, a, b})
			}
		}
	}
}

func TestWrongWeights(t *testing.T) {
	for _, w := range wrongWeights {
		for _, n := range []int{-1, 0, 1, 10, mostN, mostN + 1} {
			nothing(t, n, []int{w})
			nothing(t, n, []int{w, w})
			nothing(t, n, same(64, w))
			for _, good := range [][]int{{1}, {0, 0}, {5, 0, 7}, {most, most, most}, {-w}} {
				for at := range len(good) + 1 {
					nothing(t, n, with(good, at, w))
				}
			}
			for _, at := range []int{0, 1, 31, 62, 63} {
				nothing(t, n, with(same(63, 0), at, w))
				nothing(t, n, with(rising(63), at, w))
				nothing(t, n, with(same(63, most), at, w))
			}
		}
	}
}

// Where all weigh nothing, nobody gets anything.
func TestAllNought(t *testing.T) {
	for _, count := range []int{1, 2, 3, 63, 64} {
		for _, n := range edges {
			splits(t, n, same(count, 0), same(count, 0)...)
			caps(t, n, same(count, 0), same(count, 0)...)
		}
	}
}

// Who weighs nothing gets nothing of what is left, also where it stands first.
func TestSomeNought(t *testing.T) {
	splits(t, 7, []int{0, 5, 0}, 0, 7, 0)
	splits(t, 7, []int{0, 5, 0, 5}, 0, 4, 0, 3)
	splits(t, 1, []int{0, 3, 3, 0, 3}, 0, 1, 0, 0, 0)
	splits(t, 2, []int{0, 3, 3, 0, 3}, 0, 1, 1, 0, 0)
	caps(t, 7, []int{0, 5, 0}, 0, 5, 0)
	caps(t, 7, []int{0, 5, 0, 5}, 0, 4, 0, 3)
	caps(t, 11, []int{0, 5, 0, 5}, 0, 5, 0, 5)
	for n := range 70 {
		for count := 1; count < 20; count++ {
			holds(t, n, append(same(count, 0), rising(count)...))
			holds(t, n, append(falling(count), same(count, 0)...))
		}
	}
}

func TestGreatest(t *testing.T) {
	splits(t, mostN, same(64, most), same(64, mostN/64)...)
	caps(t, mostN, same(64, most), same(64, mostN/64)...)
	splits(t, mostN-1, same(64, most), with(same(63, mostN/64), 63, mostN/64-1)...)
	splits(t, 1, same(64, most), with(same(63, 0), 0, 1)...)
	splits(t, mostN, []int{most, most}, mostN/2, mostN/2)
	splits(t, mostN, []int{1, most, 0}, 0, mostN, 0)
	splits(t, mostN, []int{mostN, most}, 1, mostN-1)
	splits(t, mostN, []int{most - 1, most, most}, 349525, 349526, 349525)
	for at := range 64 {
		for _, w := range edgeWeights {
			l := same(64, most)
			l[at] = w
			for _, n := range []int{1, 63, 64, 65, mostN - 1, mostN} {
				holds(t, n, l)
			}
		}
	}
}

// n is less than there are weights, just as many, less than their sum, just that, and more.
func TestAmounts(t *testing.T) {
	weights := []int{4, 1, 2, 5}
	splits(t, 0, weights, 0, 0, 0, 0)
	splits(t, 1, weights, 0, 0, 0, 1)
	splits(t, 3, weights, 1, 0, 1, 1)
	splits(t, 4, weights, 1, 0, 1, 2)
	splits(t, 5, weights, 2, 0, 1, 2)
	splits(t, 11, weights, 4, 1, 2, 4)
	splits(t, 12, weights, 4, 1, 2, 5)
	splits(t, 13, weights, 4, 1, 2, 6)
	splits(t, 24, weights, 8, 2, 4, 10)
	splits(t, 120, weights, 40, 10, 20, 50)
	for n := range 200 {
		for _, weights := range [][]int{weights, same(64, 1), same(64, 2), rising(12), falling(12), {1, 100, 1}, {0, 3, 97, 3}} {
			holds(t, n, weights)
		}
	}
}

func TestRemainders(t *testing.T) {
	// All differ: 7, 14, 6, 13 and 5 of 15; the three greatest get one more.
	splits(t, 7, []int{1, 2, 3, 4, 5}, 1, 1, 1, 2, 2)
	// 1, 2, 3, 4 and 5 of 15: one is left.
	splits(t, 1, []int{1, 2, 3, 4, 5}, 0, 0, 0, 0, 1)
	// 2, 1 and 0 of 3: who has the greatest is not who weighs most.
	splits(t, 2, []int{1, 2, 0}, 1, 1, 0)
	// All are the same.
	for left := range 5 {
		want := same(5, 2)
		for i := range left {
			want[i] = 3
		}
		splits(t, 10+left, same(5, 7), want...)
	}
	// The first ones of those that are the same, behind one with a greater one.
	splits(t, 2, []int{2, 3, 2, 3, 3}, 0, 1, 0, 1, 0)
	splits(t, 3, []int{2, 3, 2, 3, 3}, 0, 1, 0, 1, 1)
	splits(t, 4, []int{2, 3, 2, 3, 3}, 1, 1, 0, 1, 1)
	splits(t, 1, []int{2, 3, 3}, 0, 1, 0)
	// Weights that differ, with remainders that are the same: the first one gets it, also if it weighs less; 2, 6, 2 and 2 of 12, and 3, all of them.
	splits(t, 2, []int{1, 3, 7, 1}, 0, 1, 1, 0)
	splits(t, 3, []int{1, 5, 1, 5}, 1, 1, 0, 1)
	splits(t, 3, []int{5, 1, 5, 1}, 2, 0, 1, 0)
	// A greater weight, with a lesser remainder, gets none.
	splits(t, 5, []int{4, 2}, 3, 2)
	splits(t, 10, []int{8, 9, 1}, 4, 5, 1)
	// What is left is just less than there are remainders.
	splits(t, 63, same(64, 5), with(same(63, 1), 63, 0)...)
	splits(t, 127, same(64, 5), with(same(63, 2), 63, 1)...)
}

// Many of the same remainder: more than a sort of few goes through one by one.
func TestManySame(t *testing.T) {
	for left := range 64 {
		for _, w := range []int{1, 9, most} {
			want := same(64, 3)
			for i := range left {
				want[i]++
			}
			splits(t, 3*64+left, same(64, w), want...)
		}
		l := same(64, 4)
		for i := range l {
			l[i] += i * 7 % 3
		}
		holds(t, left, l)
		holds(t, 1000+left, l)
	}
}

func TestCapped(t *testing.T) {
	// Nobody reaches its weight.
	caps(t, 4, []int{10, 30}, 1, 3)
	caps(t, 3, []int{2, 2, 2}, 1, 1, 1)
	// One does, by what is rounded down, or by one more.
	caps(t, 5, []int{1, 3, 3}, 1, 2, 2)
	caps(t, 6, []int{1, 3, 3}, 1, 3, 2)
	caps(t, 1, []int{1, 0, 0}, 1, 0, 0)
	// All do.
	caps(t, 7, []int{1, 3, 3}, 1, 3, 3)
	// Some is left.
	caps(t, 8, []int{1, 3, 3}, 1, 3, 3)
	caps(t, 20, []int{2, 9, 1}, 2, 9, 1)
	caps(t, mostN, []int{1, 3, 3}, 1, 3, 3)
	caps(t, mostN, []int{0, 3, 0}, 0, 3, 0)
	caps(t, 5, []int{0, 0}, 0, 0)
	// At the ends.
	caps(t, mostN, []int{mostN}, mostN)
	caps(t, mostN, []int{mostN - 1}, mostN-1)
	caps(t, mostN, []int{mostN + 1}, mostN)
	caps(t, mostN, []int{mostN - 2, 1, 1}, mostN-2, 1, 1)
	caps(t, mostN, []int{mostN - 3, 1, 1}, mostN-3, 1, 1)
	caps(t, mostN, []int{mostN - 1, 1, 1}, mostN-2, 1, 1)
	caps(t, mostN, []int{mostN - 1, 1}, mostN-1, 1)
	caps(t, mostN, []int{most, 1}, mostN, 0)
}

// Around the sum of the weights, one less up to one more, wherever some weigh nothing.
func TestAroundTheSum(t *testing.T) {
	for _, weights := range someWeights() {
		sum := Sum(weights)
		for _, n := range []int{sum - 2, sum - 1, sum, sum + 1, sum + 2, 2 * sum, 2*sum + 1, 100 * sum} {
			if n >= 0 && n <= mostN {
				holds(t, n, weights)
			}
		}
		if sum > mostN {
			continue
		}
		if l := Capped(sum, weights); !slices.Equal(l, weights) {
			t.Error(sum, weights, l)
		}
		if l := Capped(mostN, weights); !slices.Equal(l, weights) {
			t.Error(mostN, weights, l)
		}
		if l := Split(sum, weights); !slices.Equal(l, weights) {
			t.Error(sum, weights, l)
		}
	}
}

func TestSum(t *testing.T) {
	for i, x := range []struct {
		l    []int
		want int
	}{
		{nil, 0}, {[]int{}, 0}, {[]int{0}, 0}, {[]int{7}, 7}, {[]int{-7}, -7}, {[]int{1, 2, 3}, 6}, {[]int{-1, -2, -3}, -6}, {[]int{5, -5}, 0}, {[]int{-9, 4}, -5},
		{[]int{math.MaxInt}, math.MaxInt}, {[]int{math.MinInt}, math.MinInt},
		{[]int{math.MaxInt, 1}, math.MinInt}, {[]int{1, math.MaxInt}, math.MinInt}, {[]int{math.MaxInt, math.MaxInt}, -2}, {[]int{math.MaxInt, 5}, math.MinInt + 4},
		{[]int{math.MinInt, -1}, math.MaxInt}, {[]int{-1, math.MinInt}, math.MaxInt}, {[]int{math.MinInt, math.MinInt}, 0}, {[]int{math.MinInt, math.MaxInt}, -1},
		{[]int{math.MaxInt, 1, -1}, math.MaxInt}, {[]int{math.MaxInt, math.MaxInt, 2}, 0}, {[]int{1 << 62, 1 << 62, 1 << 62, 1 << 62, 3}, 3}, {[]int{math.MinInt, -1, 1}, math.MinInt},
		{same(64, most), 64 * most}, {same(65, -1), -65}, {rising(1000), 500500}, {same(1<<16, 1<<48), 0}, {same(1<<16+1, 1<<48), 1 << 48}, {same(1<<20, -3), -3 << 20},
	} {
		was := slices.Clone(x.l)
		if sum := Sum(x.l); sum != x.want {
			t.Error(i, sum)
		}
		if !slices.Equal(x.l, was) {
			t.Error(i, "changed")
		}
	}
}

// More behind the end of a list than it tells is of no matter, and is left as it is.
func TestBehindTheEnd(t *testing.T) {
	for _, count := range []int{0, 1, 3, 63, 64} {
		all := append(rising(count), -1, 9, most+1, math.MinInt)
		was := slices.Clone(all)
		holds(t, 100, all[:count])
		if Sum(all[:count]) != count*(count+1)/2 {
			t.Error(count)
		}
		if !slices.Equal(all, was) {
			t.Error(count, all)
		}
	}
}

// An answer shares nothing with the weights, or with another answer.
func TestAnswers(t *testing.T) {
	for name, call := range map[string]func(int, []int) []int{"Split": Split, "Capped": Capped} {
		for _, n := range []int{0, 5, 6, 1000} {
			for _, weights := range [][]int{{1, 2, 3}, {0, 0, 0}, {2, 2, 2}, {6, 0, 0}} {
				was := slices.Clone(weights)
				first := call(n, weights)
				wasFirst := slices.Clone(first)
				second := call(n, weights)
				fill(second, -7)
				if !slices.Equal(first, wasFirst) || !slices.Equal(weights, was) {
					t.Error(name, n, first, weights)
				}
				fill(first, -8)
				if !slices.Equal(weights, was) {
					t.Error(name, n, weights)
				}
				third := call(n, weights)
				fill(weights, 3)
				if !slices.Equal(third, wasFirst) {
					t.Error(name, n, third)
				}
			}
		}
	}
}

// fill writes to all of a list's memory.
func fill(l []int, x int) {
	l = l[:cap(l)]
	for i := range l {
		l[i] = x
	}
}

// What was asked ahead is of no matter.
func TestAgain(t *testing.T) {
	first, capped := Split(10, []int{1, 1, 1}), Capped(10, []int{2, 9, 1})
	Split(mostN, same(64, most))
	Capped(mostN, rising(64))
	Split(-1, []int{-1})
	Capped(1, same(65, 1))
	Sum([]int{math.MaxInt, 1})
	if l := Split(10, []int{1, 1, 1}); !slices.Equal(l, first) {
		t.Error(l)
	}
	if l := Capped(10, []int{2, 9, 1}); !slices.Equal(l, capped) {
		t.Error(l)
	}
}

// All lists of up to four weights up to 5, with all n up to beyond their sum.
func TestAllSmall(t *testing.T) {
	lists := [][]int{{}}
	for count := range 5 {
		for _, weights := range lists {
			for n := range 25 {
				holds(t, n, weights)
			}
		}
		if count == 4 {
			break
		}
		var next [][]int
		for _, weights := range lists {
			for w := range 6 {
				next = append(next, with(weights, 0, w))
			}
		}
		lists = next
	}
}

// mixed is weights of some form: small ones, or any ones, or those at the ends, of which some are the same.
func mixed(mix func(int) int) []int {
	weights := make([]int, mix(65))
	form, few := mix(4), 1+mix(10)
	for i := range weights {
		switch {
		case form == 0:
			weights[i] = mix(few)
		case form == 1:
			weights[i] = mix(most + 1)
		case form == 2:
			weights[i] = edgeWeights[mix(len(edgeWeights))]
		case i > 0 && mix(2) == 0:
			weights[i] = weights[mix(i)]
		default:
			weights[i] = mix(1000)
		}
	}
	return weights
}

func TestMixed(t *testing.T) {
	for seed := range 1000 {
		mix := steps(uint64(seed))
		weights := mixed(mix)
		for _, n := range []int{mix(mostN + 1), mix(100), mix(len(weights) + 2), edges[mix(len(edges))]} {
			holds(t, n, weights)
		}
		if sum := Sum(weights); sum <= mostN {
			holds(t, mix(sum+1), weights)
			holds(t, sum, weights)
		}
		if len(weights) > 0 {
			weights[mix(len(weights))] = wrongWeights[mix(len(wrongWeights))]
			nothing(t, mix(mostN+1), weights)
		}
	}
}
