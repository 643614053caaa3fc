package radix

import (
	"maps"
	"math"
	"slices"
	"testing"

	"millpond/api"
)

// Numbers that are no pages.
var strangers = []int{
	math.MinInt, math.MinInt + 1, -1 << 32, -65537, -65536, -65535, -4660, -256, -16, -15, -2, -1,
	65536, 65537, 65551, 65552, 70196, 131071, 131072, 1 << 20, 1 << 31, 1 << 32, 1<<32 + 4660, math.MaxInt - 1, math.MaxInt,
}

// Pages at the ends, and where each of the digits goes round.
var edges = []int{0, 1, 14, 15, 16, 17, 255, 256, 257, 4095, 4096, 4097, 4660, 32767, 32768, 61439, 61440, 65279, 65280, 65519, 65520, 65533, 65534, 65535}

// Words at the ends.
var someWords = []uint64{0, 1, 2, 16, 0xffff, 1 << 32, 1 << 63, math.MaxUint64 - 1, math.MaxUint64}

// The chapter's example.
func TestExample(t *testing.T) {
	pathIs(t, 4660, 1, 2, 3, 4)
	x := New()
	sets(t, x, 4660, 7)
	nodesAre(t, x, 4)
}

func TestPath(t *testing.T) {
	pathIs(t, 0, 0, 0, 0, 0)
	pathIs(t, 1, 0, 0, 0, 1)
	pathIs(t, 15, 0, 0, 0, 15)
	pathIs(t, 16, 0, 0, 1, 0)
	pathIs(t, 256, 0, 1, 0, 0)
	pathIs(t, 4095, 0, 15, 15, 15)
	pathIs(t, 4096, 1, 0, 0, 0)
	pathIs(t, 0xa0f1, 10, 0, 15, 1)
	pathIs(t, 65534, 15, 15, 15, 14)
	pathIs(t, 65535, 15, 15, 15, 15)
	for page := range api.MaxPage {
		pathIs(t, page, page/4096, page/256%16, page/16%16, page%16)
	}
	for _, page := range strangers {
		pathIs(t, page)
	}
}

func TestNoWords(t *testing.T) {
	x := New()
	holds(t, x, nil)
	for page := range api.MaxPage {
		lacks(t, x, page)
	}
	for _, page := range slices.Concat(edges, strangers) {
		lacks(t, x, page)
		if x.Drop(page) {
			t.Errorf("Drop(%d) of none", page)
		}
	}
	holds(t, x, nil)
	holds(t, x.Clone(), nil)
}

// Each word is a word, also 0, on each page that is at an edge.
func TestAnyWord(t *testing.T) {
	for _, page := range edges {
		for _, w := range someWords {
			x := New()
			sets(t, x, page, w)
			holds(t, x, map[int]uint64{page: w})
			drops(t, x, page)
			holds(t, x, nil)
		}
	}
}

func TestEdgesTogether(t *testing.T) {
	x := New()
	want := map[int]uint64{}
	for i, page := range edges {
		sets(t, x, page, uint64(i))
		want[page] = uint64(i)
		holds(t, x, want)
	}
	for _, page := range edges {
		drops(t, x, page)
		delete(want, page)
		holds(t, x, want)
	}
}

// A second Set of a page changes its word alone.
func TestSetAgain(t *testing.T) {
	x := New()
	sets(t, x, 4660, 5)
	sets(t, x, 4661, 6)
	sets(t, x, 65535, 0)
	for _, w := range append([]uint64{5, 5, 0, 0}, someWords...) {
		sets(t, x, 4660, w)
		holds(t, x, map[int]uint64{4660: w, 4661: 6, 65535: 0})
		if x.Len() != 3 || x.Nodes() != 7 {
			t.Errorf("%d words, %d nodes, want 3 and 7", x.Len(), x.Nodes())
		}
	}
}

// A page that had a word has none, and 0 is told; then it may have one again.
func TestDrop(t *testing.T) {
	x := New()
	for _, w := range someWords {
		sets(t, x, 300, w)
		sets(t, x, 301, 9)
		drops(t, x, 300)
		lacks(t, x, 300)
		for range 3 {
			if x.Drop(300) {
				t.Error("Drop of a page without a word")
			}
			holds(t, x, map[int]uint64{301: 9})
		}
	}
	drops(t, x, 301)
	holds(t, x, nil)
	sets(t, x, 300, 8)
	holds(t, x, map[int]uint64{300: 8})
}

// A page beside one that has a word has none, as close as they are; a node that is there for others does not make one.
func TestDropOfOthers(t *testing.T) {
	x := New()
	sets(t, x, 0x1234, 4)
	for _, page := range []int{0x1233, 0x1235, 0x1224, 0x1244, 0x1134, 0x1334, 0x0234, 0x2234, 0x1230, 0x123f, 0x1200, 0x1000, 0, 0xffff, 0x4321} {
		lacks(t, x, page)
		if x.Drop(page) {
			t.Errorf("Drop(%x)", page)
		}
		holds(t, x, map[int]uint64{0x1234: 4})
	}
}

// Where pages share no digit at their beginnings, there are three nodes for each; where they share some, as many less.
func TestNodes(t *testing.T) {
	for _, x := range []struct{ a, b, want int }{
		{0x1234, 0x5678, 7}, {0x1234, 0x2234, 7}, {0, 0xffff, 7}, {0x0fff, 0x1000, 7}, // no digit
		{0x1234, 0x1567, 6}, {0x1234, 0x1334, 6}, {0x0000, 0x0fff, 6}, {0x10ff, 0x1100, 6}, // one
		{0x1234, 0x1256, 5}, {0x1234, 0x1244, 5}, {0x0000, 0x00ff, 5}, {0x110f, 0x1110, 5}, // two
		{0x1234, 0x1235, 4}, {0x0000, 0x0001, 4}, {0xfff0, 0xffff, 4}, // three
		{0x1234, 0x1234, 4}, {0, 0, 4}, {0xffff, 0xffff, 4}, // all four
	} {
		for _, l := range [][2]int{{x.a, x.b}, {x.b, x.a}} {
			y := New()
			nodesAre(t, y, 1)
			sets(t, y, l[0], 1)
			nodesAre(t, y, 4)
			sets(t, y, l[1], 2)
			nodesAre(t, y, x.want)
			drops(t, y, l[1])
			if l[0] != l[1] {
				nodesAre(t, y, 4)
				drops(t, y, l[0])
			}
			nodesAre(t, y, 1)
		}
	}
}

func TestNodesBehindEach(t *testing.T) {
	pages := []int{0x1234, 0x1235, 0x1244, 0x1334, 0xffff, 0, 0x1245, 0xfff0, 0x0100}
	up := []int{4, 4, 5, 7, 10, 13, 13, 13, 15}
	x := New()
	for i, page := range pages {
		sets(t, x, page, 0)
		nodesAre(t, x, up[i])
	}
	down := []int{15, 14, 14, 12, 12, 10, 7, 4, 1}
	for i, page := range []int{0x1234, 0x1235, 0x1244, 0x1334, 0xffff, 0, 0x1245, 0xfff0, 0x0100} {
		drops(t, x, page)
		nodesAre(t, x, down[i])
	}
	holds(t, x, nil)
}

// All pages at once, and none again, in different orders.
func TestAllPages(t *testing.T) {
	orders := []func(int) int{
		func(i int) int { return i },
		func(i int) int { return 65535 - i },
		func(i int) int { return i * 4099 % 65536 },
	}
	for _, order := range orders {
		x := New()
		for i := range api.MaxPage {
			sets(t, x, order(i), uint64(order(i))^5)
			if x.Len() != i+1 {
				t.Fatalf("%d words, want %d", x.Len(), i+1)
			}
		}
		nodesAre(t, x, 1+16+256+4096)
		for page := range api.MaxPage {
			has(t, x, page, uint64(page)^5)
		}
		all := x.Walk(math.MinInt, math.MaxInt)
		if len(all) != 65536 || all[0] != 0 || all[65535] != 65535 || !slices.IsSorted(all) {
			t.Error("Walk of all pages")
		}
		for i := range api.MaxPage {
			drops(t, x, order(i))
			if x.Len() != 65535-i {
				t.Fatalf("%d words, want %d", x.Len(), 65535-i)
			}
		}
		holds(t, x, nil)
	}
}

func TestRefused(t *testing.T) {
	for _, want := range []map[int]uint64{{}, {0: 0}, {0: 3, 15: 9, 4660: 0, 65520: 8, 65535: 7}} {
		x := tableOf(t, want)
		for _, page := range strangers {
			for _, w := range someWords {
				if e := x.Set(page, w); e != api.ErrArg {
					t.Errorf("Set(%d): %v", page, e)
				}
			}
			lacks(t, x, page)
			if x.Drop(page) {
				t.Errorf("Drop(%d)", page)
			}
			holds(t, x, want)
		}
	}
}

func TestWalk(t *testing.T) {
	x := tableOf(t, map[int]uint64{0: 0, 3: 1, 15: 2, 16: 3, 0x1234: 0, 0x1235: 5, 0x1244: 6, 0x1334: 7, 0xfffe: 8, 0xffff: 9})
	all := []int{0, 3, 15, 16, 0x1234, 0x1235, 0x1244, 0x1334, 0xfffe, 0xffff}
	for _, y := range []struct {
		from, to int
		want     []int
	}{
		{0, 65536, all}, {-1, 65537, all}, {math.MinInt, math.MaxInt, all}, {math.MinInt, 65536, all}, {0, math.MaxInt, all},
		{0, 65535, all[:9]}, {1, 65536, all[1:]}, {-5, 0, nil}, {-5, 1, all[:1]}, {math.MinInt, -1, nil}, {-9, -3, nil},
		{65535, 65536, all[9:]}, {65535, math.MaxInt, all[9:]}, {65536, 65537, nil}, {65536, math.MaxInt, nil}, {math.MaxInt - 1, math.MaxInt, nil},
		{0x1235, 0xffff, all[5:9]}, {0x1234, 0x1235, all[4:5]}, {0x1235, 0x1244, all[5:6]}, {0x1236, 0x1244, nil}, {0x1236, 0x1245, all[6:7]},
		{3, 16, all[1:3]}, {4, 15, nil}, {4, 17, all[2:4]}, {17, 0x1234, nil}, {17, 0x1235, all[4:5]}, {0x1335, 0xfffe, nil},
		{0, 0, nil}, {3, 3, nil}, {0x1234, 0x1234, nil}, {65535, 65535, nil}, {65536, 65536, nil}, {-1, -1, nil},
		{math.MinInt, math.MinInt, nil}, {math.MaxInt, math.MaxInt, nil},
		{16, 3, nil}, {1, 0, nil}, {0x1235, 0x1234, nil}, {65536, 0, nil}, {65535, -1, nil}, {0, -1, nil}, {math.MaxInt, math.MinInt, nil}, {math.MaxInt, 0, nil}, {0, math.MinInt, nil},
	} {
		walks(t, x, y.from, y.to, y.want)
		walks(t, New(), y.from, y.to, nil)
	}
}

// Every two ends around those of nodes, held against all pages, one by one.
func TestWalkEnds(t *testing.T) {
	want := map[int]uint64{}
	for i, page := range edges {
		if i%3 != 1 {
			want[page] = uint64(i)
		}
	}
	x := tableOf(t, want)
	pages := slices.Sorted(maps.Keys(want))
	ends := slices.Concat(edges, strangers)
	for _, from := range ends {
		for _, to := range ends {
			walks(t, x, from, to, within(pages, from, to))
		}
	}
}

// Whoever ranges over a span may leave it at any page.
func TestPagesLeft(t *testing.T) {
	x := tableOf(t, map[int]uint64{2: 1, 3: 1, 500: 1, 65535: 1})
	s := span{root: &x.root, from: 0, to: api.MaxPage}
	for n := 1; n <= 4; n++ {
		var l []int
		for page := range s.pages {
			l = append(l, page)
			if len(l) == n {
				break
			}
		}
		if !slices.Equal(l, []int{2, 3, 500, 65535}[:n]) {
			t.Errorf("left at %d: %v", n, l)
		}
	}
}

func TestClone(t *testing.T) {
	for _, want := range []map[int]uint64{{}, {0: 0}, {65535: 3}, {0: 3, 15: 9, 16: 4, 4660: 0, 4661: 1, 65520: 8, 65535: 7}} {
		x := tableOf(t, want)
		c := x.Clone()
		holds(t, c, want)
		change(t, x)
		holds(t, c, want)

		x = tableOf(t, want)
		c = x.Clone()
		change(t, c)
		holds(t, x, want)

		d := x.Clone().Clone()
		change(t, x)
		holds(t, d, want)
	}
}

// Each single thing that is done to one of the two, down to none and up again.
func TestCloneStepByStep(t *testing.T) {
	want := map[int]uint64{0x1234: 1, 0x1235: 0, 0x1244: 2, 0x1334: 3, 0x2334: 4, 0: 5, 0xffff: 6}
	for _, first := range []bool{true, false} {
		a := tableOf(t, want)
		b := a.Clone()
		if !first {
			a, b = b, a
		}
		left := maps.Clone(want)
		for _, page := range slices.Sorted(maps.Keys(want)) {
			sets(t, a, page, 77)
			holds(t, b, want)
			drops(t, a, page)
			delete(left, page)
			holds(t, a, left)
			holds(t, b, want)
		}
		for _, page := range []int{0x1234, 0x1236, 0x1254, 0x1434, 0x3334, 0xfffe} {
			sets(t, a, page, 88)
			left[page] = 88
			holds(t, a, left)
			holds(t, b, want)
		}
	}
}

func TestWalkStays(t *testing.T) {
	x := tableOf(t, map[int]uint64{1: 1, 20: 2, 65535: 3})
	l, again := x.Walk(0, 65536), x.Walk(0, 65536)
	change(t, x)
	if want := []int{1, 20, 65535}; !slices.Equal(l, want) || !slices.Equal(again, want) {
		t.Errorf("what was walked is %v, %v now", l, again)
	}
	x = tableOf(t, map[int]uint64{1: 1, 20: 2, 65535: 3})
	l = x.Walk(0, 65536)
	again = x.Walk(0, 65536)
	for i := range l {
		l[i] = 9
	}
	_ = append(l, 10, 11, 12)
	if !slices.Equal(again, []int{1, 20, 65535}) {
		t.Errorf("two answers share memory: %v", again)
	}
	holds(t, x, map[int]uint64{1: 1, 20: 2, 65535: 3})
}

func TestPathStays(t *testing.T) {
	l, again := Path(4660), Path(4660)
	Path(65535)
	if !slices.Equal(l, []int{1, 2, 3, 4}) {
		t.Errorf("%v now", l)
	}
	clear(l)
	if !slices.Equal(again, []int{1, 2, 3, 4}) {
		t.Errorf("two answers share memory: %v", again)
	}
	pathIs(t, 4660, 1, 2, 3, 4)
}

func TestTwoTables(t *testing.T) {
	a, b := New(), New()
	sets(t, a, 4660, 1)
	holds(t, b, nil)
	sets(t, b, 4660, 2)
	sets(t, b, 4661, 3)
	holds(t, a, map[int]uint64{4660: 1})
	drops(t, b, 4660)
	holds(t, a, map[int]uint64{4660: 1})
	drops(t, a, 4660)
	holds(t, b, map[int]uint64{4661: 3})
	holds(t, New(), nil)
}

// A page has what was set last: held against a plain map, among pages that share many digits and among such that share few.
func TestAgainstMap(t *testing.T) {
	for seed, mask := range []uint64{0x000f, 0x0013, 0x1111, 0x3003, 0x8421, 0xf00f, 0xffff} {
		next := steps(uint64(seed))
		x := New()
		want := map[int]uint64{}
		for step := range 1500 {
			page := int(next() & mask)
			_, there := want[page]
			if next()%5 < uint64(2+step/500%2) {
				if x.Drop(page) != there {
					t.Fatalf("Drop(%d) with %v", page, want)
				}
				delete(want, page)
			} else {
				w := next() % 3
				sets(t, x, page, w)
				want[page] = w
			}
			holds(t, x, want)
			from, to := int(next()%70000)-2000, int(next()%70000)-2000
			walks(t, x, from, to, within(slices.Sorted(maps.Keys(want)), from, to))
			if step%100 == 0 {
				x = x.Clone()
			}
		}
	}
}

// steps is numbers that look mixed, the same ones at each run.
func steps(x uint64) func() uint64 {
	return func() uint64 {
		x = x*6364136223846793005 + 1442695040888963407
		return x ^ x>>29
	}
}

// change does to a table whatever can be done to one.
func change(t *testing.T, x *Table) {
	t.Helper()
	for i, page := range x.Walk(0, api.MaxPage) {
		w, _ := x.Get(page)
		sets(t, x, page, ^w)
		if i%2 == 0 {
			drops(t, x, page)
		}
	}
	for i, page := range edges {
		sets(t, x, page, uint64(i)+1000)
	}
	sets(t, x, 4666, 1)
	sets(t, x, 40000, 1)
	drops(t, x, 4660)
	drops(t, x, 65535)
}

func tableOf(t *testing.T, words map[int]uint64) *Table {
	t.Helper()
	x := New()
	for page, w := range words {
		sets(t, x, page, w)
	}
	return x
}

// within is those of the pages that Walk must tell, found one by one.
func within(pages []int, from, to int) []int {
	var l []int
	for _, page := range pages {
		if page >= from && page < to {
			l = append(l, page)
		}
	}
	return l
}

// nodesFor counts the nodes as the chapter does: the root, and the different beginnings of one, two and three digits.
func nodesFor(words map[int]uint64) int {
	type beginning struct{ digits, value int }
	seen := map[beginning]int{}
	for page := range words {
		seen[beginning{1, page / 4096}]++
		seen[beginning{2, page / 256}]++
		seen[beginning{3, page / 16}]++
	}
	return 1 + len(seen)
}

// kept counts the nodes that a table has in truth, with n as its root.
func kept(n *node) int {
	sum := 1
	for i := range n {
		if n[i].below != nil {
			sum += kept(n[i].below)
		}
	}
	return sum
}

// holds tells whether a table has these words and no others, by each of its calls.
func holds(t *testing.T, x *Table, want map[int]uint64) {
	t.Helper()
	if x.Len() != len(want) {
		t.Fatalf("%d words, want %d", x.Len(), len(want))
	}
	nodesAre(t, x, nodesFor(want))
	pages := slices.Sorted(maps.Keys(want))
	walks(t, x, 0, api.MaxPage, pages)
	for _, page := range pages {
		has(t, x, page, want[page])
		for _, beside := range []int{page - 4096, page - 256, page - 16, page - 1, page + 1, page + 16, page + 256, page + 4096} {
			if _, ok := want[beside]; !ok {
				lacks(t, x, beside)
			}
		}
	}
}

func pathIs(t *testing.T, page int, want ...int) {
	t.Helper()
	if l := Path(page); !slices.Equal(l, want) {
		t.Fatalf("Path(%d): %v, want %v", page, l, want)
	}
}

// nodesAre tells whether so many nodes are told, and are there: what holds nothing any more is let go.
func nodesAre(t *testing.T, x *Table, want int) {
	t.Helper()
	if n, k := x.Nodes(), kept(&x.root); n != want || k != want {
		t.Fatalf("Nodes: %d, kept %d, want %d", n, k, want)
	}
}

func walks(t *testing.T, x *Table, from, to int, want []int) {
	t.Helper()
	if l := x.Walk(from, to); !slices.Equal(l, want) {
		t.Fatalf("Walk(%d, %d): %v, want %v", from, to, l, want)
	}
}

func has(t *testing.T, x *Table, page int, want uint64) {
	t.Helper()
	if w, ok := x.Get(page); w != want || !ok {
		t.Fatalf("Get(%d): %d, %v, want %d", page, w, ok, want)
	}
}

func lacks(t *testing.T, x *Table, page int) {
	t.Helper()
	if w, ok := x.Get(page); w != 0 || ok {
		t.Fatalf("Get(%d): %d, %v, want none", page, w, ok)
	}
}

func sets(t *testing.T, x *Table, page int, w uint64) {
	t.Helper()
	if e := x.Set(page, w); e != api.OK {
		t.Fatalf("Set(%d, %d): %v", page, w, e)
	}
	has(t, x, page, w)
}

func drops(t *testing.T, x *Table, page int) {
	t.Helper()
	if !x.Drop(page) {
		t.Fatalf("Drop(%d): it had none", page)
	}
	lacks(t, x, page)
}
