package bits

import (
	"math"
	"slices"
	"testing"

	"millpond/api"
)

// Numbers that no Map has, no width is, and no field holds.
var extremes = []int{math.MinInt, math.MinInt + 1, -65536, -65, -64, -63, -1, 65536, 65537, math.MaxInt32, math.MaxInt - 1, math.MaxInt}

// Lengths around the ends of words, and of the longest Map.
var lengths = []int{0, 1, 2, 63, 64, 65, 127, 128, 129, 130, 1000, 65535, 65536}

func TestNewLength(t *testing.T) {
	for _, x := range []struct{ n, want int }{
		{math.MinInt, 0}, {-1, 0}, {0, 0}, {1, 1}, {63, 63}, {64, 64}, {65, 65},
		{65535, 65535}, {65536, 65536}, {65537, 65536}, {math.MaxInt, 65536},
	} {
		m := New(x.n)
		if got := m.Len(); got != x.want {
			t.Errorf("New(%d).Len() = %d, want %d", x.n, got, x.want)
		}
		if m.Count() != 0 || m.Next(0, true) != -1 {
			t.Errorf("New(%d): bits are on", x.n)
		}
	}
}

func TestNoBits(t *testing.T) {
	m := New(0)
	for _, i := range append([]int{0, 1}, extremes...) {
		if m.Set(i, true) || m.Set(i, false) || m.Get(i) || m.Next(i, true) != -1 || m.Next(i, false) != -1 {
			t.Errorf("a bit %d of none", i)
		}
	}
	if m.Len() != 0 || m.Count() != 0 {
		t.Error(m.Len(), m.Count())
	}
}

func TestSetTellsWhetherItChanged(t *testing.T) {
	for _, n := range lengths {
		m := New(n)
		for _, i := range edgesOf(n) {
			if m.Set(i, false) || m.Get(i) {
				t.Errorf("%d bits: off, though %d was off", n, i)
			}
			if !m.Set(i, true) || !m.Get(i) || m.Set(i, true) || !m.Get(i) {
				t.Errorf("%d bits: on of %d", n, i)
			}
			if m.Count() != 1 || m.Next(0, true) != i {
				t.Errorf("%d bits: not %d alone is on", n, i)
			}
			if !m.Set(i, false) || m.Get(i) || m.Set(i, false) || m.Count() != 0 {
				t.Errorf("%d bits: off of %d", n, i)
			}
		}
	}
}

func TestBitsThatThereAreNot(t *testing.T) {
	for _, n := range lengths {
		for _, on := range []bool{false, true} {
			m := New(n)
			fill(m, !on)
			count := m.Count()
			for _, i := range append([]int{n, n + 1, n + 63, n + 64}, extremes...) {
				if i >= 0 && i < n {
					continue
				}
				if m.Set(i, on) || m.Get(i) {
					t.Errorf("%d bits: bit %d", n, i)
				}
			}
			if m.Count() != count || m.Next(0, on) != -1 {
				t.Errorf("%d bits: something was done", n)
			}
		}
	}
}

func TestCount(t *testing.T) {
	for _, n := range lengths {
		m := New(n)
		fill(m, true)
		if m.Count() != n {
			t.Errorf("all of %d: %d", n, m.Count())
		}
		gone := 0
		for i := 0; i < n; i += 3 {
			m.Set(i, false)
			gone++
		}
		if m.Count() != n-gone {
			t.Errorf("of %d without %d: %d", n, gone, m.Count())
		}
	}
}

func TestNextFromOutside(t *testing.T) {
	for _, n := range lengths {
		m := New(n)
		fill(m, true)
		for _, from := range extremes {
			want := -1
			if n > 0 && from < n {
				want = max(from, 0)
			}
			if got := m.Next(from, true); got != want {
				t.Errorf("%d bits on: Next(%d, true) = %d, want %d", n, from, got, want)
			}
			if got := m.Next(from, false); got != -1 {
				t.Errorf("%d bits on: Next(%d, false) = %d", n, from, got)
			}
		}
		// What lies beyond the last bit in its word is off, but no bit.
		for _, from := range edgesOf(n) {
			if m.Next(from, true) != from || m.Next(from, false) != -1 {
				t.Errorf("%d bits on: from %d", n, from)
			}
		}
	}
}

func TestNextSkipsWholeWords(t *testing.T) {
	for _, on := range []bool{false, true} {
		m := New(65536)
		fill(m, !on)
		for _, i := range []int{65535, 40000, 128, 64, 63, 0} {
			m.Set(i, on)
			if got := m.Next(0, on); got != i {
				t.Errorf("Next(0, %v) = %d, want %d", on, got, i)
			}
		}
		for _, x := range [][2]int{{0, 0}, {1, 63}, {63, 63}, {64, 64}, {65, 128}, {128, 128}, {129, 40000}, {40001, 65535}, {65535, 65535}, {65536, -1}} {
			if got := m.Next(x[0], on); got != x[1] {
				t.Errorf("Next(%d, %v) = %d, want %d", x[0], on, got, x[1])
			}
		}
	}
}

// All calls of a Map, held against a plain list of bools.
func TestMapLikeAList(t *testing.T) {
	for _, n := range []int{1, 5, 63, 64, 65, 130, 200} {
		m, list := New(n), make([]bool, n)
		next := steps(uint64(n))
		for range 3000 {
			i, on := int(next()%uint64(n+20))-10, next()%2 == 1
			was := i >= 0 && i < n && list[i] != on
			if i >= 0 && i < n {
				list[i] = on
			}
			if m.Set(i, on) != was {
				t.Fatalf("%d bits: Set(%d, %v) is not %v", n, i, on, was)
			}
			from, on := int(next()%uint64(n+20))-10, next()%2 == 1
			if got, want := m.Next(from, on), nextOf(list, from, on); got != want {
				t.Fatalf("%d bits: Next(%d, %v) = %d, want %d", n, from, on, got, want)
			}
			count := 0
			for k, b := range list {
				if m.Get(k) != b {
					t.Fatalf("%d bits: Get(%d) is not %v", n, k, b)
				}
				if b {
					count++
				}
			}
			if m.Count() != count || m.Len() != n {
				t.Fatalf("%d bits: Count %d, want %d", n, m.Count(), count)
			}
		}
	}
}

func TestMapsKnowNothingOfEachOther(t *testing.T) {
	a, b := New(100), New(100)
	a.Set(7, true)
	if b.Get(7) || b.Count() != 0 || !b.Set(7, true) || !b.Set(7, false) || !a.Get(7) {
		t.Error("two maps share bits")
	}
}

func TestPack(t *testing.T) {
	for _, x := range []struct {
		widths, values []int
		want           uint64
	}{
		{nil, nil, 0},
		{[]int{}, nil, 0},
		{[]int{4, 8}, []int{3, 5}, 0x53},
		{[]int{0}, []int{0}, 0},
		{[]int{0, 0, 3, 0}, []int{0, 0, 7, 0}, 7},
		{[]int{1, 1, 1}, []int{1, 0, 1}, 5},
		{[]int{62}, []int{1<<62 - 1}, 1<<62 - 1},
		{[]int{62, 2}, []int{0, 3}, 3 << 62},
		{[]int{2, 62}, []int{3, 1<<62 - 1}, 1<<64 - 1},
		{[]int{62, 2, 0}, []int{1<<62 - 1, 3, 0}, 1<<64 - 1},
		{[]int{32, 32}, []int{1<<32 - 1, 1}, 1<<33 - 1},
		{[]int{16, 16, 16, 16}, []int{1, 2, 3, 4}, 0x0004_0003_0002_0001},
	} {
		got, e := Pack(x.widths, x.values)
		if got != x.want || e != api.OK {
			t.Errorf("Pack(%v, %v) = %x, %v, want %x", x.widths, x.values, got, e, x.want)
		}
		back, e := Unpack(x.widths, x.want)
		if e != api.OK || !slices.Equal(back, x.values) {
			t.Errorf("Unpack(%v, %x) = %v, %v", x.widths, x.want, back, e)
		}
	}
}

// Each width takes all values of its bits, and none that needs one more.
func TestPackWidthsToTheirEnds(t *testing.T) {
	for w := 0; w <= 62; w++ {
		most := 1<<w - 1
		for _, v := range []int{0, most / 2, most} {
			if got, e := Pack([]int{w}, []int{v}); got != uint64(v) || e != api.OK {
				t.Errorf("width %d, value %d: %x, %v", w, v, got, e)
			}
			if got, e := Pack([]int{1, w}, []int{1, v}); got != uint64(v)<<1|1 || e != api.OK {
				t.Errorf("widths 1, %d, value %d: %x, %v", w, v, got, e)
			}
		}
		for _, v := range []int{most + 1, math.MaxInt, -1, math.MinInt} {
			refusesPack(t, []int{w}, []int{v})
			refusesPack(t, []int{1, w}, []int{1, v})
			refusesPack(t, []int{w, 1}, []int{v, 1})
		}
		if got, e := Unpack([]int{w}, uint64(most)); e != api.OK || !slices.Equal(got, []int{most}) {
			t.Errorf("width %d: Unpack %v, %v", w, got, e)
		}
		for _, x := range []uint64{uint64(most) + 1, 1 << 63, math.MaxUint64} {
			refusesUnpack(t, []int{w}, x)
		}
	}
}

func TestPackRefuses(t *testing.T) {
	for _, x := range []struct{ widths, values []int }{
		{[]int{4}, nil},
		{nil, []int{0}},
		{[]int{4, 4}, []int{1}},
		{[]int{4}, []int{1, 1}},
		{[]int{0}, []int{1}},
		{[]int{4, 4, 4}, []int{1, 1, 16}},
	} {
		refusesPack(t, x.widths, x.values)
	}
}

func TestWidthsThatMayNotBe(t *testing.T) {
	for _, widths := range [][]int{
		{-1}, {63}, {64}, {65}, {math.MinInt}, {math.MaxInt},
		{1, -1}, {-1, 1}, {0, 63}, {63, 0}, {-1, 63}, {64, -1},
		{62, 3}, {3, 62}, {62, 2, 1}, {32, 32, 1}, {62, 62}, {16, 16, 16, 17},
		{math.MaxInt, math.MaxInt, 2}, {1, math.MaxInt}, {62, math.MinInt},
		slices.Repeat([]int{1}, 65),
		slices.Repeat([]int{62}, 1000),
	} {
		refusesPack(t, widths, make([]int, len(widths)))
		refusesUnpack(t, widths, 0)
	}
}

func TestManyWidths(t *testing.T) {
	ones := slices.Repeat([]int{1}, 64)
	if x, e := Pack(ones, ones); x != math.MaxUint64 || e != api.OK {
		t.Errorf("64 ones: %x, %v", x, e)
	}
	if l, e := Unpack(ones, math.MaxUint64); e != api.OK || !slices.Equal(l, ones) {
		t.Error(l, e)
	}
	// Fields without bits may be as many as there are, behind a full word too.
	widths, values := append(slices.Clone(ones), make([]int, 5000)...), append(slices.Clone(ones), make([]int, 5000)...)
	if x, e := Pack(widths, values); x != math.MaxUint64 || e != api.OK {
		t.Errorf("fields without bits: %x, %v", x, e)
	}
	if l, e := Unpack(widths, math.MaxUint64); e != api.OK || !slices.Equal(l, values) {
		t.Error(len(l), e)
	}
}

func TestUnpackBitsAboveAll(t *testing.T) {
	for _, x := range []uint64{1, 1 << 63} {
		refusesUnpack(t, nil, x)
		refusesUnpack(t, []int{0, 0}, x)
	}
	refusesUnpack(t, []int{4, 8}, 1<<12)
	refusesUnpack(t, []int{62, 1}, 1<<63)
	if l, e := Unpack([]int{62, 2}, 1<<63); e != api.OK || !slices.Equal(l, []int{0, 2}) {
		t.Error(l, e)
	}
}

func TestWhatIsPackedIsUnpackedAgain(t *testing.T) {
	next := steps(1)
	for range 5000 {
		var widths, values []int
		for all := 0; ; {
			w := int(next() % 63)
			if all += w; all > 64 {
				break
			}
			widths = append(widths, w)
			values = append(values, int(next()&(1<<w-1)))
		}
		w0, v0 := slices.Clone(widths), slices.Clone(values)
		x, e := Pack(widths, values)
		if e != api.OK {
			t.Fatalf("Pack(%v, %v): %v", widths, values, e)
		}
		l, e := Unpack(widths, x)
		if e != api.OK || !slices.Equal(l, values) {
			t.Fatalf("Unpack(%v, %x) = %v, %v, want %v", widths, x, l, e, values)
		}
		if !slices.Equal(widths, w0) || !slices.Equal(values, v0) {
			t.Fatal("arguments were changed")
		}
	}
}

func TestUnpackSharesNothing(t *testing.T) {
	widths := []int{4, 4}
	l, _ := Unpack(widths, 0x21)
	l[0], l[1] = 9, 9
	if again, _ := Unpack(widths, 0x21); !slices.Equal(again, []int{1, 2}) || !slices.Equal(widths, []int{4, 4}) {
		t.Error(again, widths)
	}
}

func TestDigits(t *testing.T) {
	for _, x := range []struct {
		x     uint64
		width int
		want  []int
	}{
		{0x1234, 8, []int{0, 0, 0, 0, 0, 0, 0x12, 0x34}},
		{0x0123_4567_89ab_cdef, 16, []int{0x0123, 0x4567, 0x89ab, 0xcdef}},
		{math.MaxUint64, 16, []int{0xffff, 0xffff, 0xffff, 0xffff}},
		{math.MaxUint64, 15, []int{0xf, 0x7fff, 0x7fff, 0x7fff, 0x7fff}},
		{1 << 63, 5, []int{8, 0, 0, 0, 0, 0, 0, 0, 0, 0, 0, 0, 0}},
		{0, 13, []int{0, 0, 0, 0, 0}},
		{1<<63 | 1, 1, append(append([]int{1}, make([]int, 62)...), 1)},
	} {
		if got := Digits(x.x, x.width); !slices.Equal(got, x.want) {
			t.Errorf("Digits(%x, %d) = %v, want %v", x.x, x.width, got, x.want)
		}
	}
}

func TestDigitsOfAllWidths(t *testing.T) {
	many := []int{64, 32, 22, 16, 13, 11, 10, 8, 8, 7, 6, 6, 5, 5, 5, 4}
	next := steps(2)
	for i, count := range many {
		width := i + 1
		for _, x := range []uint64{0, 1, 1 << 63, math.MaxUint64, next(), next(), next()} {
			l := Digits(x, width)
			if len(l) != count {
				t.Errorf("width %d: %d digits, want %d", width, len(l), count)
			}
			for _, d := range l {
				if d < 0 || d >= 1<<width {
					t.Errorf("width %d: digit %d", width, d)
				}
			}
			if back := Join(l, width); back != x {
				t.Errorf("width %d: %x came back as %x", width, x, back)
			}
		}
	}
}

func TestWidthsThatDigitsMayNotHave(t *testing.T) {
	for _, width := range append([]int{0, 17, 18, 32, 62, 63, 64}, extremes...) {
		if l := Digits(math.MaxUint64, width); len(l) != 0 {
			t.Errorf("Digits of width %d: %v", width, l)
		}
		if x := Join([]int{1, 2, 3}, width); x != 0 {
			t.Errorf("Join of width %d: %x", width, x)
		}
	}
}

func TestJoin(t *testing.T) {
	for _, x := range []struct {
		l     []int
		width int
		want  uint64
	}{
		{nil, 1, 0},
		{[]int{}, 16, 0},
		{[]int{1, 0, 1}, 1, 5},
		{[]int{1, 2, 3, 4}, 4, 0x1234},
		{[]int{-1, 1}, 4, 0xf1},
		{[]int{1, -1}, 4, 0x1f},
		{[]int{16, 17, 31}, 4, 0x01f},
		{[]int{2, 3, -1, -2}, 1, 6},
		{[]int{math.MinInt, math.MaxInt}, 16, 0xffff},
		{[]int{0x10000, 0x1ffff, -0x10000, -0xffff}, 16, 0x0000_ffff_0000_0001},
		{[]int{7, 1, 2, 3, 4}, 16, 0x0001_0002_0003_0004},
		{append([]int{1}, make([]int, 63)...), 1, 1 << 63},
		{append([]int{1}, make([]int, 64)...), 1, 0},
		{append([]int{31}, make([]int, 12)...), 5, 15 << 60},
		{slices.Repeat([]int{-1}, 1000), 7, math.MaxUint64},
	} {
		kept := slices.Clone(x.l)
		if got := Join(x.l, x.width); got != x.want {
			t.Errorf("Join(%v, %d) = %x, want %x", x.l, x.width, got, x.want)
		}
		if !slices.Equal(x.l, kept) {
			t.Error("the digits were changed")
		}
	}
}

func TestDigitsShareNothing(t *testing.T) {
	l := Digits(5, 4)
	l[15] = 9
	if again := Digits(5, 4); again[15] != 5 {
		t.Error(again)
	}
}

func refusesPack(t *testing.T, widths, values []int) {
	t.Helper()
	if x, e := Pack(widths, values); x != 0 || e != api.ErrArg {
		t.Errorf("Pack(%v, %v) = %x, %v", widths, values, x, e)
	}
}

func refusesUnpack(t *testing.T, widths []int, x uint64) {
	t.Helper()
	if l, e := Unpack(widths, x); len(l) != 0 || e != api.ErrArg {
		t.Errorf("Unpack(%v, %x) = %v, %v", widths, x, l, e)
	}
}

// edgesOf is bits of n at the ends of words, and of all.
func edgesOf(n int) []int {
	var l []int
	for _, i := range []int{0, 1, 62, 63, 64, 65, 127, 128, n - 2, n - 1} {
		if i >= 0 && i < n {
			l = append(l, i)
		}
	}
	return l
}

func fill(m *Map, on bool) {
	for i := range m.Len() {
		m.Set(i, on)
	}
}

// nextOf is Next of a list.
func nextOf(list []bool, from int, on bool) int {
	for i, b := range list {
		if i >= from && b == on {
			return i
		}
	}
	return -1
}

// steps is numbers that look mixed, the same ones at each run.
func steps(x uint64) func() uint64 {
	return func() uint64 {
		x = x*6364136223846793005 + 1442695040888963407
		return x ^ x>>29
	}
}
