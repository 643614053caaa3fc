package region

import (
	"math"
	"slices"
	"testing"

	"millpond/api"
)

func steps(x uint64) func() uint64 {
	return func() uint64 {
		x = x*6364136223846793005 + 1442695040888963407
		return x ^ x>>29
	}
}

func anon(from, to int) api.Region { return api.Region{From: from, To: to, Kind: api.KindAnon} }

func file(from, to, file, index int) api.Region {
	return api.Region{From: from, To: to, Kind: api.KindFile, File: file, Index: index}
}

func writable(x api.Region) api.Region {
	x.Write = true
	return x
}

// many are so many regions of one page each, each begins where the one ahead ends.
func many(n int) []api.Region {
	var l []api.Region
	for i := range n {
		l = append(l, file(i, i+1, i, 3*i))
	}
	return l
}

// Numbers that are far from what may be anywhere, and such as go round when they are added up or held against each other.
var far = []int{math.MinInt, math.MinInt + 1, -1 << 62, -1 << 32, -1 << 21, -65537, -65536, 1 << 22, 1 << 32, 1<<32 + 1, 1 << 62, math.MaxInt - 65536, math.MaxInt - 65535, math.MaxInt - 1, math.MaxInt}

// Lists that are not right, each for another reason.
func wrongLists() map[string][]api.Region {
	return map[string][]api.Region{
		"one that is zero":           {{}},
		"a zero one ahead":           {{}, anon(3, 5)},
		"a zero one behind":          {anon(3, 5), {}},
		"one without pages":          {anon(0, 3), anon(3, 3), anon(3, 5)},
		"the wrong way round":        {anon(3, 1)},
		"a kind that there is not":   {{From: 0, To: 3, Kind: 3}},
		"one's own with an index":    {{From: 0, To: 3, Kind: api.KindAnon, Index: 1}},
		"begins ahead of all":        {anon(-1, 3)},
		"ends behind all":            {anon(0, 65537)},
		"a file too great":           {file(0, 3, 1<<20+1, 0)},
		"an index too great":         {file(0, 3, 1, 1<<21-2)},
		"begins a page early":        {anon(0, 5), anon(4, 6)},
		"begins a page early, third": {anon(0, 5), anon(5, 6), anon(5, 8)},
		"the same twice":             {anon(2, 5), anon(2, 5)},
		"one within another":         {anon(0, 9), anon(3, 5)},
		"one within one further on":  {anon(3, 5), anon(0, 9)},
		"the greater one ahead":      {anon(5, 9), anon(0, 5)},
		"the last two turned round":  {anon(0, 1), anon(1, 2), anon(4, 5), anon(2, 3)},
	}
}

// guarded is a list with other regions ahead of it and in the room behind its end, and a test that none of all that was changed.
func guarded(l []api.Region) ([]api.Region, func(t *testing.T, what ...any)) {
	around := file(-7, -5, 77, 777)
	all := []api.Region{around, around}
	all = append(all, l...)
	all = append(all, around, around, around)
	was := slices.Clone(all)
	return all[2 : 2+len(l)], func(t *testing.T, what ...any) {
		t.Helper()
		if !slices.Equal(all, was) {
			t.Error("the list that was given was changed:", all, was, what)
		}
	}
}

// apart tests that an answer has no memory of a list that was given: what is written to one is not seen in the other.
func apart(t *testing.T, l, m []api.Region) {
	t.Helper()
	wasL, wasM := slices.Clone(l[:cap(l)]), slices.Clone(m)
	mine := m[:cap(m)]
	for i := range mine {
		mine[i].From -= 1000
	}
	if !slices.Equal(l[:cap(l)], wasL) {
		t.Error("what is written to the answer is seen in the list that was given")
	}
	copy(m, wasM)
	for i := range l[:cap(l)] {
		l[:cap(l)][i].To += 1000
	}
	if !slices.Equal(m, wasM) {
		t.Error("what is written to the list that was given is seen in the answer")
	}
	copy(l[:cap(l)], wasL)
}

func adds(t *testing.T, l []api.Region, x api.Region, want []api.Region) {
	t.Helper()
	given, kept := guarded(l)
	m, e := Add(given, x)
	if e != api.OK || !slices.Equal(m, want) {
		t.Error("Add", l, x, "is", m, e, "not", want)
	}
	kept(t, "Add", l, x)
	apart(t, given, m)
}

func refuses(t *testing.T, l []api.Region, x api.Region, want api.Errno) {
	t.Helper()
	given, kept := guarded(l)
	m, e := Add(given, x)
	if e != want || m != nil {
		t.Error("Add", l, x, "is", m, e, "not nil and", want)
	}
	kept(t, "Add", l, x)
}

func cuts(t *testing.T, l []api.Region, from, to int, want []api.Region) {
	t.Helper()
	given, kept := guarded(l)
	m := Cut(given, from, to)
	if !slices.Equal(m, want) {
		t.Error("Cut", l, from, to, "is", m, "not", want)
	}
	kept(t, "Cut", l, from, to)
	apart(t, given, m)
}

func finds(t *testing.T, l []api.Region, page int, want api.Region, has bool) {
	t.Helper()
	given, kept := guarded(l)
	x, ok := Find(given, page)
	if x != want || ok != has {
		t.Error("Find", l, page, "is", x, ok, "not", want, has)
	}
	kept(t, "Find", l, page)
}

func counts(t *testing.T, l []api.Region, want int) {
	t.Helper()
	given, kept := guarded(l)
	if n := Pages(given); n != want {
		t.Error("Pages", l, "is", n, "not", want)
	}
	kept(t, "Pages", l)
}

func isRight(t *testing.T, l []api.Region, want bool) {
	t.Helper()
	given, kept := guarded(l)
	if Right(given) != want {
		t.Error("Right", l, "is not", want)
	}
	kept(t, "Right", l)
}

func isValid(t *testing.T, x api.Region, want bool) {
	t.Helper()
	if Valid(x) != want || Valid(writable(x)) != want {
		t.Error("Valid", x, "is not", want)
	}
}

// The chapter's example, and that of the document.
func TestExample(t *testing.T) {
	cuts(t, []api.Region{file(0, 9, 2, 4)}, 3, 5, []api.Region{file(0, 3, 2, 4), file(5, 9, 2, 9)})
}

func TestValidFromAndTo(t *testing.T) {
	ends := []int{-2, -1, 0, 1, 2, 3, 4095, 4096, 65534, 65535, 65536, 65537, 65538, 131072}
	ends = append(ends, far...)
	for _, from := range ends {
		for _, to := range ends {
			may := from >= 0 && to > from && to <= 65536
			isValid(t, anon(from, to), may)
			isValid(t, file(from, to, 0, 0), may)
			isValid(t, file(from, to, 5, 9), may)
		}
	}
	for from := range 20 {
		for to := range 20 {
			isValid(t, anon(from, to), from < to)
			isValid(t, file(from, to, 1, 1), from < to)
		}
	}
}

func TestValidKind(t *testing.T) {
	for _, k := range []api.Kind{math.MinInt, math.MinInt + 1, -1 << 32, -2, -1, api.KindNone, 3, 4, 5, 1 << 32, 1<<32 + 1, 1<<32 + 2, math.MaxInt - 1, math.MaxInt} {
		isValid(t, api.Region{From: 0, To: 3, Kind: k}, false)
		isValid(t, api.Region{From: 0, To: 3, Kind: k, File: 1, Index: 2}, false)
		isValid(t, api.Region{Kind: k}, false)
	}
	isValid(t, api.Region{From: 0, To: 3, Kind: api.KindAnon}, true)
	isValid(t, api.Region{From: 0, To: 3, Kind: api.KindFile}, true)
	isValid(t, api.Region{}, false)
}

func TestValidAnon(t *testing.T) {
	for _, n := range append([]int{-2, -1, 1, 2, 65536, 1 << 20, 1 << 21}, far...) {
		isValid(t, api.Region{From: 0, To: 3, Kind: api.KindAnon, File: n}, false)
		isValid(t, api.Region{From: 0, To: 3, Kind: api.KindAnon, Index: n}, false)
		isValid(t, api.Region{From: 0, To: 3, Kind: api.KindAnon, File: n, Index: n}, false)
		isValid(t, api.Region{From: 0, To: 3, Kind: api.KindAnon, File: n, Index: -n}, false)
	}
}

func TestValidFile(t *testing.T) {
	for _, n := range []int{0, 1, 2, 31, 32, 65536, 1<<20 - 1, 1 << 20} {
		isValid(t, file(0, 3, n, 0), true)
		isValid(t, file(0, 3, n, -1), false)
		isValid(t, file(3, 3, n, 0), false)
	}
	for _, n := range append([]int{-2, -1, 1<<20 + 1, 1<<20 + 2, 1 << 21}, far...) {
		isValid(t, file(0, 3, n, 0), false)
		isValid(t, file(0, 3, n, n), false)
	}
}

func TestValidIndex(t *testing.T) {
	for _, ends := range [][2]int{{0, 1}, {0, 2}, {0, 3}, {7, 9}, {100, 4196}, {65535, 65536}, {0, 65535}, {1, 65536}, {0, 65536}} {
		from, to := ends[0], ends[1]
		last := 1<<21 - (to - from)
		for _, n := range []int{0, 1, 2, 65536, last - 1, last} {
			isValid(t, file(from, to, 1, n), true)
		}
		for _, n := range append([]int{-65536, -3, -2, -1, last + 1, last + 2, 1 << 21, 1<<21 + 1}, far...) {
			isValid(t, file(from, to, 1, n), false)
		}
	}
}

func TestRight(t *testing.T) {
	isRight(t, nil, true)
	isRight(t, []api.Region{}, true)
	isRight(t, []api.Region{anon(0, 1)}, true)
	isRight(t, []api.Region{anon(0, 65536)}, true)
	isRight(t, []api.Region{anon(0, 5), anon(5, 9)}, true)
	isRight(t, []api.Region{anon(0, 5), anon(6, 9)}, true)
	isRight(t, []api.Region{anon(0, 5), anon(4, 9)}, false)
	isRight(t, []api.Region{anon(0, 5), writable(anon(5, 9)), file(9, 12, 1, 0), file(12, 14, 1, 0), anon(65535, 65536)}, true)
	isRight(t, []api.Region{file(0, 5, 3, 10), file(7, 9, 2, 1), file(9, 11, 3, 10)}, true)
	for _, n := range []int{63, 64, 65, 1000} {
		isRight(t, many(n), true)
		isRight(t, append(many(n), anon(n, n+1)), true)
		isRight(t, append(many(n), anon(n-1, n+1)), false)
		isRight(t, append(many(n), anon(n, n)), false)
		wrong := many(n)
		wrong[n/2], wrong[n/2+1] = wrong[n/2+1], wrong[n/2]
		isRight(t, wrong, false)
	}
	for _, l := range wrongLists() {
		isRight(t, l, false)
	}
	for _, n := range far {
		isRight(t, []api.Region{anon(0, 1), anon(n, 5)}, false)
		isRight(t, []api.Region{anon(0, 1), anon(2, n), anon(3, 4)}, false)
	}
}

func TestAddAtItsPlace(t *testing.T) {
	adds(t, nil, anon(3, 5), []api.Region{anon(3, 5)})
	adds(t, []api.Region{}, anon(0, 65536), []api.Region{anon(0, 65536)})
	a, b, c := anon(2, 4), writable(file(6, 9, 3, 40)), file(12, 14, 1<<20, 1<<21-2)
	l := []api.Region{a, b, c}
	for _, x := range []api.Region{anon(0, 1), anon(0, 2), file(1, 2, 3, 40), writable(anon(1, 2))} {
		adds(t, l, x, []api.Region{x, a, b, c})
	}
	for _, x := range []api.Region{anon(4, 5), anon(4, 6), anon(5, 6), writable(file(4, 6, 3, 40))} {
		adds(t, l, x, []api.Region{a, x, b, c})
	}
	for _, x := range []api.Region{anon(9, 10), anon(9, 12), anon(10, 11), anon(11, 12)} {
		adds(t, l, x, []api.Region{a, b, x, c})
	}
	for _, x := range []api.Region{anon(14, 15), anon(14, 65536), anon(15, 16), anon(65535, 65536)} {
		adds(t, l, x, []api.Region{a, b, c, x})
	}
}

func TestAddBusy(t *testing.T) {
	l := []api.Region{anon(2, 4), writable(file(6, 9, 3, 40)), file(12, 14, 2, 0)}
	for _, ends := range [][2]int{{0, 3}, {0, 4}, {0, 5}, {1, 3}, {2, 3}, {2, 4}, {3, 4}, {3, 5}, {3, 6}, {4, 7}, {5, 7}, {5, 10}, {6, 9}, {7, 8}, {8, 9}, {8, 12}, {9, 13}, {11, 65536}, {13, 14}, {13, 65536}, {0, 65536}, {3, 13}} {
		refuses(t, l, anon(ends[0], ends[1]), api.ErrBusy)
		refuses(t, l, file(ends[0], ends[1], 3, 40), api.ErrBusy)
	}
	for _, x := range l {
		refuses(t, l, x, api.ErrBusy)
	}
}

func TestAddWrong(t *testing.T) {
	for why, l := range wrongLists() {
		for _, x := range []api.Region{anon(20, 25), anon(0, 1), anon(0, 65536), {}} {
			given, kept := guarded(l)
			if m, e := Add(given, x); m != nil || e != api.ErrArg {
				t.Error(why, x, m, e)
			}
			kept(t, why)
		}
	}
	l := []api.Region{anon(2, 4), anon(6, 9)}
	for _, x := range []api.Region{{}, {From: 10, To: 12}, anon(10, 10), anon(11, 10), anon(-1, 1), anon(-3, -1), anon(10, 65537), anon(65536, 65537), {From: 10, To: 12, Kind: 3}, {From: 10, To: 12, Kind: -1}, {From: 10, To: 12, Kind: api.KindAnon, File: 1}, {From: 10, To: 12, Kind: api.KindAnon, Index: 1}, file(10, 12, -1, 0), file(10, 12, 1<<20+1, 0), file(10, 12, 0, -1), file(10, 12, 0, 1<<21-1)} {
		refuses(t, l, x, api.ErrArg)
		refuses(t, nil, x, api.ErrArg)
	}
	for _, n := range far {
		for _, x := range []api.Region{anon(n, 12), anon(10, n), anon(n, n), file(10, 12, n, 0), file(10, 12, 0, n), {From: 10, To: 12, Kind: api.Kind(n)}} {
			refuses(t, l, x, api.ErrArg)
		}
	}
}

// What may not be asked at all is told ahead of what is in use.
func TestAddWrongAheadOfBusy(t *testing.T) {
	l := []api.Region{anon(2, 4), anon(6, 9)}
	for _, x := range []api.Region{anon(-1, 3), anon(3, 65537), anon(3, 3), anon(8, 7), {From: 2, To: 4}, {From: 2, To: 4, Kind: api.KindAnon, File: 1}, file(2, 4, -1, 0), file(2, 4, 0, 1<<21-1)} {
		refuses(t, l, x, api.ErrArg)
	}
	refuses(t, []api.Region{anon(2, 4), anon(3, 5)}, anon(3, 4), api.ErrArg)
	refuses(t, []api.Region{anon(6, 9), anon(2, 4)}, anon(3, 4), api.ErrArg)
	for _, n := range []int{64, 65} {
		refuses(t, many(n), anon(3, 4), api.ErrArg)
		refuses(t, many(n), anon(0, 65536), api.ErrArg)
	}
	refuses(t, many(63), anon(3, 4), api.ErrBusy)
}

func TestAddFull(t *testing.T) {
	for _, x := range []api.Region{anon(63, 64), anon(64, 65), anon(65535, 65536), file(100, 200, 9, 9)} {
		adds(t, many(62), x, append(many(62), x))
		adds(t, many(63), x, append(many(63), x))
	}
	for _, n := range []int{64, 65, 66, 1000} {
		refuses(t, many(n), anon(n, n+1), api.ErrArg)
		refuses(t, many(n), anon(65535, 65536), api.ErrArg)
	}
}

func TestCutOne(t *testing.T) {
	f := writable(file(10, 20, 3, 7))
	a := writable(anon(10, 20))
	for _, l := range [][]api.Region{{f}, {a}} {
		x := l[0]
		at := func(from, to int) api.Region {
			y := x
			y.From, y.To = from, to
			if x.Kind == api.KindFile {
				y.Index = 7 + from - 10
			}
			return y
		}
		cuts(t, l, 13, 15, []api.Region{at(10, 13), at(15, 20)})
		cuts(t, l, 11, 19, []api.Region{at(10, 11), at(19, 20)})
		cuts(t, l, 14, 15, []api.Region{at(10, 14), at(15, 20)})
		cuts(t, l, 10, 11, []api.Region{at(11, 20)})
		cuts(t, l, 10, 19, []api.Region{at(19, 20)})
		cuts(t, l, 0, 12, []api.Region{at(12, 20)})
		cuts(t, l, 19, 20, []api.Region{at(10, 19)})
		cuts(t, l, 11, 20, []api.Region{at(10, 11)})
		cuts(t, l, 15, 30, []api.Region{at(10, 15)})
		cuts(t, l, 10, 20, nil)
		cuts(t, l, 9, 21, nil)
		cuts(t, l, 0, 65536, nil)
		cuts(t, l, 0, 9, l)
		cuts(t, l, 0, 10, l)
		cuts(t, l, 20, 21, l)
		cuts(t, l, 21, 65536, l)
	}
}

func TestCutSeveral(t *testing.T) {
	a, f, b := anon(0, 10), writable(file(10, 20, 3, 7)), anon(22, 30)
	l := []api.Region{a, f, b}
	cuts(t, l, 5, 12, []api.Region{anon(0, 5), writable(file(12, 20, 3, 9)), b})
	cuts(t, l, 5, 25, []api.Region{anon(0, 5), anon(25, 30)})
	cuts(t, l, 10, 20, []api.Region{a, b})
	cuts(t, l, 10, 22, []api.Region{a, b})
	cuts(t, l, 20, 22, l)
	cuts(t, l, 0, 10, []api.Region{f, b})
	cuts(t, l, 0, 21, []api.Region{b})
	cuts(t, l, 0, 29, []api.Region{anon(29, 30)})
	cuts(t, l, 1, 65536, []api.Region{anon(0, 1)})
	cuts(t, l, 19, 23, []api.Region{a, writable(file(10, 19, 3, 7)), anon(23, 30)})
	cuts(t, l, 12, 13, []api.Region{a, writable(file(10, 12, 3, 7)), writable(file(13, 20, 3, 10)), b})
	cuts(t, l, 0, 65536, nil)
	cuts(t, nil, 0, 65536, nil)
	cuts(t, []api.Region{file(0, 65536, 1<<20, 1<<21-65536)}, 1, 65535, []api.Region{file(0, 1, 1<<20, 1<<21-65536), file(65535, 65536, 1<<20, 1<<21-1)})
}

// A cut may leave more regions than there may be added to.
func TestCutOfMany(t *testing.T) {
	for _, n := range []int{63, 64, 65, 1000} {
		l := many(n)
		l[n-1].To = n + 4
		want := append(slices.Clone(l), file(n+2, n+4, n-1, 3*n))
		want[n-1].To = n + 1
		cuts(t, l, n+1, n+2, want)
		cuts(t, l, 0, n-1, l[n-1:])
		cuts(t, l, 1, n+4, l[:1])
		cuts(t, l, n+4, n+5, l)
	}
}

func TestCutOfNone(t *testing.T) {
	l := []api.Region{anon(0, 10), writable(file(10, 20, 3, 7)), anon(22, 30)}
	for from := -2; from < 34; from++ {
		for to := -2; to <= from; to++ {
			cuts(t, l, from, to, l)
		}
	}
	for _, n := range far {
		cuts(t, l, n, n, l)
		cuts(t, nil, n, n, nil)
	}
	cuts(t, l, math.MaxInt, math.MinInt, l)
	cuts(t, l, 15, math.MinInt, l)
	cuts(t, l, math.MaxInt, 15, l)
}

func TestCutFar(t *testing.T) {
	l := []api.Region{anon(0, 10), writable(file(10, 20, 3, 7)), anon(22, 65536)}
	for _, low := range []int{math.MinInt, math.MinInt + 1, -65536, -2, -1} {
		for _, high := range []int{65536, 65537, 1 << 32, math.MaxInt - 1, math.MaxInt} {
			cuts(t, l, low, high, nil)
			cuts(t, l, high, low, l)
		}
		cuts(t, l, low, 15, []api.Region{writable(file(15, 20, 3, 12)), anon(22, 65536)})
		cuts(t, l, low, 0, l)
		cuts(t, l, low, -1, l)
		cuts(t, l, 15, low, l)
	}
	for _, high := range []int{65536, 65537, 1 << 32, math.MaxInt - 1, math.MaxInt} {
		cuts(t, l, 15, high, []api.Region{anon(0, 10), writable(file(10, 15, 3, 7))})
		cuts(t, l, 65535, high, []api.Region{anon(0, 10), writable(file(10, 20, 3, 7)), anon(22, 65535)})
		cuts(t, l, 65536, high, l)
		cuts(t, l, high, 15, l)
	}
}

func TestCutFindPagesOfWrongLists(t *testing.T) {
	for why, l := range wrongLists() {
		for _, ends := range [][2]int{{0, 65536}, {0, 1}, {3, 5}, {4, 4}, {5, 3}, {math.MinInt, math.MaxInt}, {math.MaxInt, math.MinInt}} {
			given, kept := guarded(l)
			if m := Cut(given, ends[0], ends[1]); m != nil {
				t.Error(why, m)
			}
			kept(t, why)
		}
		for page := -2; page < 12; page++ {
			finds(t, l, page, api.Region{}, false)
		}
		for _, page := range far {
			finds(t, l, page, api.Region{}, false)
		}
		counts(t, l, 0)
	}
}

func TestFind(t *testing.T) {
	a, f, b, c := anon(2, 10), writable(file(10, 20, 3, 7)), anon(22, 23), file(65530, 65536, 0, 0)
	l := []api.Region{a, f, b, c}
	for _, x := range l {
		for page := x.From; page < x.To; page++ {
			finds(t, l, page, x, true)
		}
	}
	for _, page := range append([]int{-2, -1, 0, 1, 20, 21, 23, 24, 30000, 65529, 65536, 65537}, far...) {
		finds(t, l, page, api.Region{}, false)
	}
	for _, page := range append([]int{-1, 0, 1, 65535, 65536}, far...) {
		finds(t, nil, page, api.Region{}, false)
	}
	for _, n := range []int{63, 64, 65, 1000} {
		for page := range n {
			finds(t, many(n), page, many(n)[page], true)
		}
		finds(t, many(n), -1, api.Region{}, false)
		finds(t, many(n), n, api.Region{}, false)
	}
}

func isKey(t *testing.T, x api.Region, page int, want api.Key) {
	t.Helper()
	if k := Key(x, page); k != want {
		t.Error("Key", x, page, "is", k, "not", want)
	}
}

func TestKey(t *testing.T) {
	f := writable(file(10, 20, 3, 7))
	for page := -30; page < 50; page++ {
		isKey(t, f, page, api.Key{File: 3, Index: page - 3})
		isKey(t, anon(10, 20), page, api.Key{File: -1, Index: page})
		isKey(t, api.Region{}, page, api.Key{File: -1, Index: page})
	}
	for _, page := range far {
		isKey(t, f, page, api.Key{File: 3, Index: page - 3})
		isKey(t, file(0, 1, 0, 0), page, api.Key{File: 0, Index: page})
		isKey(t, anon(0, 1), page, api.Key{File: -1, Index: page})
	}
	isKey(t, file(0, 65536, 1<<20, 1<<21-65536), 65535, api.Key{File: 1 << 20, Index: 1<<21 - 1})
}

// Key asks for a region's kind alone, not whether it is valid.
func TestKeyOfWrongRegions(t *testing.T) {
	for _, k := range []api.Kind{math.MinInt, -1, api.KindNone, api.KindAnon, 3, 4, 1 << 32, 1<<32 + 2, math.MaxInt} {
		for _, page := range append([]int{-1, 0, 9}, far...) {
			isKey(t, api.Region{From: 2, To: 5, Kind: k, File: 4, Index: 6}, page, api.Key{File: -1, Index: page})
		}
	}
	isKey(t, file(5, 2, -9, -20), 6, api.Key{File: -9, Index: -19})
	isKey(t, file(-5, 2, math.MaxInt, 20), 6, api.Key{File: math.MaxInt, Index: 31})
	isKey(t, file(0, 1, 1, math.MaxInt), 1, api.Key{File: 1, Index: math.MinInt})
	isKey(t, file(1, 2, 1, math.MinInt), 0, api.Key{File: 1, Index: math.MaxInt})
	isKey(t, file(math.MinInt, 2, math.MinInt, 0), math.MinInt, api.Key{File: math.MinInt, Index: 0})
	isKey(t, file(math.MinInt, 2, 1, 0), math.MaxInt, api.Key{File: 1, Index: -1})
}

func TestPages(t *testing.T) {
	counts(t, nil, 0)
	counts(t, []api.Region{anon(0, 1)}, 1)
	counts(t, []api.Region{anon(65535, 65536)}, 1)
	counts(t, []api.Region{anon(0, 65536)}, 65536)
	counts(t, []api.Region{anon(0, 5), writable(file(5, 9, 3, 7)), anon(20, 23)}, 12)
	counts(t, []api.Region{file(100, 300, 3, 7), file(300, 400, 3, 7)}, 300)
	for _, n := range []int{63, 64, 65, 1000} {
		counts(t, many(n), n)
	}
}

// The pages of the plain spaces below.
const small = 40

// space is regions told page by page: which region has the page (0 for none), and that region's piece of this page alone.
type space [small]struct {
	which int
	alone api.Region
}

// laid is a list as a space.
func laid(l []api.Region) space {
	var s space
	for i, x := range l {
		for page := x.From; page < x.To; page++ {
			alone := x
			alone.From, alone.To = page, page+1
			if x.Kind == api.KindFile {
				alone.Index += page - x.From
			}
			s[page].which, s[page].alone = i+1, alone
		}
	}
	return s
}

// list is the space's regions again: pages side by side of the same one are one.
func (s *space) list() []api.Region {
	var l []api.Region
	ahead := 0
	for _, p := range s {
		if p.which != 0 && p.which == ahead {
			l[len(l)-1].To++
		} else if p.which != 0 {
			l = append(l, p.alone)
		}
		ahead = p.which
	}
	return l
}

// anyRegion is a valid region of a plain space.
func anyRegion(next func() uint64) api.Region {
	from := int(next() % small)
	x := api.Region{From: from, To: from + 1 + int(next()%5), Kind: api.KindAnon, Write: next()%2 == 0}
	x.To = min(x.To, small)
	if next()%2 == 0 {
		x.Kind, x.File, x.Index = api.KindFile, int(next()%3), int(next()%9)
	}
	return x
}

// Lists that are added to and cut at every turn are as spaces told page by page.
func TestAsPagesTell(t *testing.T) {
	next := steps(7)
	var l []api.Region
	for turn := range 20000 {
		was := laid(l)
		if next()%3 > 0 {
			x := anyRegion(next)
			busy := false
			for page := x.From; page < x.To; page++ {
				busy = busy || was[page].which != 0
			}
			if busy {
				refuses(t, l, x, api.ErrBusy)
				continue
			}
			now := was
			for page, p := range laid([]api.Region{x}) {
				if p.which != 0 {
					p.which = len(l) + 1
					now[page] = p
				}
			}
			adds(t, l, x, now.list())
			l = now.list()
		} else {
			from := int(next()%(small+10)) - 5
			to := from + int(next()%9) - 2
			for page := max(0, from); page < min(to, small); page++ {
				was[page].which = 0
			}
			cuts(t, l, from, to, was.list())
			l = was.list()
		}
		now := laid(l)
		isRight(t, l, true)
		count := 0
		for page, p := range now {
			if p.which == 0 {
				finds(t, l, page, api.Region{}, false)
				continue
			}
			count++
			finds(t, l, page, l[p.which-1], true)
			if p.alone.Kind == api.KindFile {
				isKey(t, l[p.which-1], page, api.Key{File: p.alone.File, Index: p.alone.Index})
			}
		}
		counts(t, l, count)
		if t.Failed() {
			t.Fatal("at turn", turn)
		}
	}
}

// Two answers of the same list have no memory in common.
func TestAnswersApart(t *testing.T) {
	l := make([]api.Region, 0, 10)
	l = append(l, anon(0, 2), anon(4, 6))
	a, _ := Add(l, anon(8, 9))
	b, _ := Add(l, anon(10, 11))
	c := Cut(l, 20, 30)
	d := Cut(l, 30, 20)
	a[0].Write, b[0].File, c[0].Index, d[0].Kind = true, 1, 2, 3
	want := anon(0, 2)
	if l[0] != want || a[0] != writable(want) || b[0].File != 1 || b[0].Write || c[0].Index != 2 || c[0].Write || c[0].File != 0 || d[0].Kind != 3 || d[0].Index != 0 || a[2] != anon(8, 9) || b[2] != anon(10, 11) {
		t.Error(l, a, b, c, d)
	}
}
