package entry

import (
	"math"
	"testing"

	"millpond/api"
)

// Kinds that there are.
var kinds = []api.Kind{api.KindNone, api.KindAnon, api.KindFile}

// Kinds that there are not: just beside the others, such as are the others again in two bits, and as great and as small as there are.
var wrongKinds = []api.Kind{math.MinInt, math.MinInt + 1, math.MinInt + 2, -1 << 32, -4, -3, -2, -1, 3, 4, 5, 6, 7, 8, 1 << 24, 1 << 32, 1<<32 + 1, 1 << 62, math.MaxInt - 1, math.MaxInt}

// Pages that there are, at the ends and on both sides of each of their bits.
var pages = edgePages()

// Pages that there are not; some are others again in 24 bits.
var wrongPages = []int{math.MinInt, math.MinInt + 1, -1 << 32, -1<<24 - 1, -1 << 24, -1<<24 + 1, -5, -2, -1, 1 << 24, 1<<24 + 1, 1<<24 + 5, 1<<25 - 1, 1 << 25, 1 << 26, 1 << 32, 1<<32 + 5, 1 << 62, math.MaxInt - 1, math.MaxInt}

var bools = []bool{false, true}

// The chapter's example.
func TestExample(t *testing.T) {
	e := api.Entry{Kind: api.KindAnon, Page: 5, Write: true}
	packs(t, e, 67108885)
	packs(t, e, 1+5*4+1<<26)
}

func TestPack(t *testing.T) {
	packs(t, api.Entry{}, 0)
	packs(t, api.Entry{Kind: api.KindAnon}, 1)
	packs(t, api.Entry{Kind: api.KindFile}, 2)
	packs(t, api.Entry{Kind: api.KindAnon, Page: 1}, 5)
	packs(t, api.Entry{Kind: api.KindFile, Page: 1<<24 - 1}, 0x3fffffe)
	packs(t, api.Entry{Kind: api.KindAnon, Write: true}, 0x4000001)
	packs(t, api.Entry{Kind: api.KindAnon, Touched: true}, 0x8000001)
	packs(t, api.Entry{Kind: api.KindFile, Page: 1<<24 - 1, Write: true}, 0x7fffffe)
	packs(t, api.Entry{Kind: api.KindFile, Page: 1<<24 - 1, Touched: true}, 0xbfffffe)
	packs(t, api.Entry{Kind: api.KindFile, Page: 1<<24 - 1, Write: true, Touched: true}, 0xffffffe)
	packs(t, api.Entry{Kind: api.KindAnon, Page: 1<<24 - 1, Write: true, Touched: true}, 0xffffffd)
	for e := range entries {
		packs(t, e, wordOf(e))
	}
}

func TestWrongKinds(t *testing.T) {
	for _, k := range wrongKinds {
		for _, page := range append([]int{-1, math.MinInt, 1 << 24, math.MaxInt}, pages...) {
			for _, w := range bools {
				for _, d := range bools {
					refuses(t, api.Entry{Kind: k, Page: page, Write: w, Touched: d})
				}
			}
		}
	}
}

func TestWrongPages(t *testing.T) {
	for _, page := range wrongPages {
		for _, k := range append(kinds, wrongKinds...) {
			for _, w := range bools {
				for _, d := range bools {
					refuses(t, api.Entry{Kind: k, Page: page, Write: w, Touched: d})
				}
			}
		}
	}
}

// Of KindNone there is the zero entry alone.
func TestNoneWithSomething(t *testing.T) {
	for _, page := range append(append([]int{}, pages...), wrongPages...) {
		for _, w := range bools {
			for _, d := range bools {
				if page != 0 || w || d {
					refuses(t, api.Entry{Page: page, Write: w, Touched: d})
				}
			}
		}
	}
	packs(t, api.Entry{Kind: api.KindNone}, 0)
}

// Of just those words that are the Pack of an entry there is one.
func TestUnpack(t *testing.T) {
	for x := range words {
		want, there := entryOf(x)
		if !there {
			isNone(t, x)
			continue
		}
		if e, err := Unpack(x); e != want || err != api.OK {
			t.Errorf("Unpack(%x) = %+v, %v, want %+v", x, e, err, want)
		}
		if y, err := Pack(want); y != x || err != api.OK {
			t.Errorf("%x is packed as %x, %v", x, y, err)
		}
	}
}

func TestWordsOfNoEntry(t *testing.T) {
	for _, x := range []uint64{3, 4, 7, 8, 1 << 25, 1 << 26, 1 << 27, 3 << 26, 1 << 28, 1<<28 - 1, 1<<28 - 4, 1<<28 + 1, 1<<28 + 2, 1<<32 + 21, 1 << 63, 1<<63 + 1, math.MaxUint64 - 2, math.MaxUint64 - 1, math.MaxUint64} {
		isNone(t, x)
	}
	for at := 28; at < 64; at++ {
		for e := range entries {
			isNone(t, wordOf(e)+1<<at)
		}
	}
}

// Each small word, one by one, by what the chapter says of Kind and Page.
func TestSmallWords(t *testing.T) {
	for x := range uint64(1 << 16) {
		if x%4 == 3 || x%4 == 0 && x != 0 {
			isNone(t, x)
			continue
		}
		if e, err := Unpack(x); e != (api.Entry{Kind: api.Kind(x % 4), Page: int(x / 4)}) || err != api.OK {
			t.Errorf("Unpack(%x) = %+v, %v", x, e, err)
		}
	}
}

// What is packed is unpacked again, and no two entries have one word.
func TestPackedAndUnpacked(t *testing.T) {
	seen := map[uint64]api.Entry{}
	for e := range entries {
		x, err := Pack(e)
		if err != api.OK {
			t.Fatalf("Pack(%+v): %v", e, err)
		}
		if other, ok := seen[x]; ok {
			t.Errorf("%+v and %+v are both %x", other, e, x)
		}
		seen[x] = e
		if y, err := Unpack(x); y != e || err != api.OK {
			t.Errorf("%+v is unpacked as %+v, %v", e, y, err)
		}
	}
	for page := 0; page < 1<<24; page += 251 {
		e := api.Entry{Kind: api.Kind(1 + page%2), Page: page, Write: page%3 == 0, Touched: page%5 < 2}
		x, err := Pack(e)
		if err != api.OK || x != wordOf(e) {
			t.Fatalf("Pack(%+v) = %x, %v", e, x, err)
		}
		if y, err := Unpack(x); y != e || err != api.OK {
			t.Fatalf("%+v is unpacked as %+v, %v", e, y, err)
		}
	}
}

func TestTouch(t *testing.T) {
	if x := Touch(21); x != 21+1<<27 {
		t.Errorf("Touch(21) = %x", x)
	}
	for e := range entries {
		want := e
		want.Touched = e.Kind != api.KindNone
		x := Touch(wordOf(e))
		is(t, x, want)
		if y := Touch(x); y != x {
			t.Errorf("touched twice: %x, then %x", x, y)
		}
	}
}

func TestRest(t *testing.T) {
	if x, was := Rest(21 + 1<<27); x != 21 || !was {
		t.Errorf("Rest(21, touched) = %x, %v", x, was)
	}
	for e := range entries {
		want := e
		want.Touched = false
		x, was := Rest(wordOf(e))
		is(t, x, want)
		if was != e.Touched {
			t.Errorf("Rest of %+v: was it? %v", e, was)
		}
		if y, was := Rest(x); y != x || was {
			t.Errorf("Rest a second time of %+v: %x, %v", e, y, was)
		}
	}
}

// An entry that is touched, and rests, is again what it was without it, each time.
func TestTouchAndRest(t *testing.T) {
	for e := range entries {
		x := wordOf(e)
		for range 3 {
			rested, _ := Rest(x)
			again, was := Rest(Touch(x))
			if again != rested || was != (e.Kind != api.KindNone) {
				t.Errorf("%+v: touched and rested it is %x, %v, want %x", e, again, was, rested)
			}
			x = again
		}
	}
}

func TestWrite(t *testing.T) {
	if x := Write(21, true); x != 67108885 {
		t.Errorf("Write(21, true) = %d", x)
	}
	if x := Write(67108885, false); x != 21 {
		t.Errorf("Write(67108885, false) = %d", x)
	}
	for e := range entries {
		for _, on := range bools {
			want := e
			want.Write = on && e.Kind != api.KindNone
			x := Write(wordOf(e), on)
			is(t, x, want)
			if y := Write(x, on); y != x {
				t.Errorf("Write twice of %+v: %x, then %x", e, x, y)
			}
			if y := Write(Write(x, !on), on); y != x {
				t.Errorf("Write to and fro of %+v: %x, then %x", e, x, y)
			}
		}
	}
}

// What is no entry, or is of KindNone, stays as it is.
func TestWordsThatStay(t *testing.T) {
	stays(t, 0)
	for x := range words {
		if e, there := entryOf(x); !there || e.Kind == api.KindNone {
			stays(t, x)
		}
	}
	for at := 28; at < 64; at++ {
		for e := range entries {
			stays(t, wordOf(e)+1<<at)
		}
	}
}

// A call hangs on its arguments alone: what else was asked between does not matter.
func TestNothingIsKept(t *testing.T) {
	e := api.Entry{Kind: api.KindFile, Page: 77, Write: true}
	for x := range words {
		Touch(x)
		Write(x, x%2 == 0)
		Rest(x)
		packs(t, e, wordOf(e))
		is(t, wordOf(e), e)
	}
}

func packs(t *testing.T, e api.Entry, want uint64) {
	t.Helper()
	if x, err := Pack(e); x != want || err != api.OK {
		t.Errorf("Pack(%+v) = %x, %v, want %x", e, x, err, want)
	}
}

func refuses(t *testing.T, e api.Entry) {
	t.Helper()
	if x, err := Pack(e); x != 0 || err != api.ErrArg {
		t.Errorf("Pack(%+v) = %x, %v, want 0, %v", e, x, err, api.ErrArg)
	}
}

// is tells whether a word is just that entry.
func is(t *testing.T, x uint64, want api.Entry) {
	t.Helper()
	if e, err := Unpack(x); e != want || err != api.OK || x != wordOf(want) {
		t.Errorf("%x is %+v, %v, want %+v", x, e, err, want)
	}
}

func isNone(t *testing.T, x uint64) {
	t.Helper()
	if e, err := Unpack(x); e != (api.Entry{}) || err != api.ErrArg {
		t.Errorf("Unpack(%x) = %+v, %v, want a zero one, %v", x, e, err, api.ErrArg)
	}
}

func stays(t *testing.T, x uint64) {
	t.Helper()
	if y := Touch(x); y != x {
		t.Errorf("Touch(%x) = %x", x, y)
	}
	if y, was := Rest(x); y != x || was {
		t.Errorf("Rest(%x) = %x, %v", x, y, was)
	}
	for _, on := range bools {
		if y := Write(x, on); y != x {
			t.Errorf("Write(%x, %v) = %x", x, on, y)
		}
	}
}

// wordOf is the word of an entry that there is, summed up.
func wordOf(e api.Entry) uint64 {
	x := uint64(e.Kind) + 4*uint64(e.Page)
	if e.Write {
		x += 1 << 26
	}
	if e.Touched {
		x += 1 << 27
	}
	return x
}

// entryOf is the entry of a word, divided out, and whether there is one.
func entryOf(x uint64) (api.Entry, bool) {
	if x == 0 {
		return api.Entry{}, true
	}
	if x >= 1<<28 || x%4 == 0 || x%4 == 3 {
		return api.Entry{}, false
	}
	return api.Entry{Kind: api.Kind(x % 4), Page: int(x / 4 % (1 << 24)), Write: x/(1<<26)%2 == 1, Touched: x/(1<<27) == 1}, true
}

func edgePages() []int {
	l := []int{0, 1, 1<<24 - 2, 1<<24 - 1}
	for at := 1; at < 24; at++ {
		l = append(l, 1<<at-1, 1<<at, 1<<at+1)
	}
	return l
}

// entries are the one of KindNone, and those of the other kinds with pages at the edges, each with each.
func entries(yield func(api.Entry) bool) {
	if !yield(api.Entry{}) {
		return
	}
	known := map[api.Entry]bool{}
	for _, k := range kinds[1:] {
		for _, page := range pages {
			for i := range 4 {
				e := api.Entry{Kind: k, Page: page, Write: i%2 == 1, Touched: i/2 == 1}
				if !known[e] && !yield(e) {
					return
				}
				known[e] = true
			}
		}
	}
}

// words are such with one, two or three bits on, or off, those around 2^28 and the greatest, and mixed ones of all lengths.
func words(yield func(uint64) bool) {
	for a := range 64 {
		for b := range a + 1 {
			for c := range b + 1 {
				x := uint64(1)<<a | 1<<b | 1<<c
				if !yield(x) || !yield(^x) || !yield((1<<28-1)&^x) {
					return
				}
			}
		}
	}
	for k := range uint64(64) {
		if !yield(k) || !yield(1<<28-k) || !yield(1<<28+k) || !yield(math.MaxUint64-k) {
			return
		}
	}
	next := steps(6)
	for range 20000 {
		if !yield(next() >> (next() % 64)) {
			return
		}
	}
}

// steps is numbers that look mixed, the same ones at each run.
func steps(x uint64) func() uint64 {
	return func() uint64 {
		x = x*6364136223846793005 + 1442695040888963407
		return x ^ x>>29
	}
}
