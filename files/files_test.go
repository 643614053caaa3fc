package files

import (
	"math"
	"math/big"
	"slices"
	"strings"
	"testing"

	"millpond/api"
)

const (
	blank = "\x00\x00\x00\x00\x00\x00\x00\x00\x00\x00\x00\x00\x00\x00\x00\x00"
	early = "0123456789abcdef"
	later = "fedcba9876543210"
)

// Numbers that no store has as a file.
var noFiles = []int{math.MinInt, math.MinInt + 1, -1 << 32, -33, -32, -2, -1, 32, 33, 255, 256, 4096, 1 << 32, math.MaxInt - 1, math.MaxInt}

// Numbers that no file has as a page.
var noPages = []int{math.MinInt, math.MinInt + 1, -1 << 32, -4097, -4096, -256, -2, -1, 4096, 4097, 65536, 1 << 32, math.MaxInt - 1, math.MaxInt}

// Texts that no page can have.
var noTexts = []string{"", "a", blank[:15], early[:15], early + "g", blank + "\x00", early + early, "äöüäöüäöüäöüäöüä", strings.Repeat("x", 1000)}

func TestCount(t *testing.T) {
	for _, x := range []struct{ n, want int }{
		{0, 0}, {1, 1}, {2, 2}, {31, 31}, {32, 32}, {33, 32}, {34, 32}, {40, 32}, {64, 32}, {5000, 32},
	} {
		s := New(slices.Repeat([]int{3}, x.n))
		if s.Count() != x.want || s.Writes() != 0 {
			t.Errorf("%d sizes: %d files, %d written, want %d and 0", x.n, s.Count(), s.Writes(), x.want)
		}
		for file := range s.Count() {
			sizeIs(t, s, file, 3)
			reads(t, s, key(file, 2), first(key(file, 2)))
			refuses(t, s, key(file, 3))
		}
		for _, file := range append([]int{s.Count(), s.Count() + 1}, noFiles...) {
			sizeIs(t, s, file, 0)
			refuses(t, s, key(file, 0))
		}
	}
}

func TestSize(t *testing.T) {
	for _, x := range []struct{ size, want int }{
		{math.MinInt, 0}, {math.MinInt + 1, 0}, {-4097, 0}, {-4096, 0}, {-2, 0}, {-1, 0}, {0, 0}, {1, 1}, {2, 2}, {16, 16}, {255, 255}, {256, 256},
		{4095, 4095}, {4096, 4096}, {4097, 4096}, {5000, 4096}, {65536, 4096}, {1<<32 + 5, 4096}, {math.MaxInt - 1, 4096}, {math.MaxInt, 4096},
	} {
		s := New([]int{1, x.size, 2})
		if s.Count() != 3 {
			t.Errorf("size %d: %d files", x.size, s.Count())
		}
		sizeIs(t, s, 0, 1)
		sizeIs(t, s, 1, x.want)
		sizeIs(t, s, 2, 2)
		for index := range x.want {
			reads(t, s, key(1, index), first(key(1, index)))
		}
		refuses(t, s, key(1, -1))
		refuses(t, s, key(1, x.want))
		if x.want > 0 {
			writes(t, s, key(1, x.want-1), early)
			reads(t, s, key(1, x.want-1), early)
		}
	}
}

// The first 32 are taken as they stand, those behind are left.
func TestSizesInTheirOrder(t *testing.T) {
	var sizes []int
	for file := range 40 {
		sizes = append(sizes, 100*file-300)
	}
	s := New(sizes)
	for file := range 40 {
		want := max(0, sizes[file])
		if file >= 32 {
			want = 0
		}
		sizeIs(t, s, file, want)
	}
}

func TestNoFiles(t *testing.T) {
	for _, sizes := range [][]int{nil, {}} {
		s := New(sizes)
		if s.Count() != 0 {
			t.Errorf("%d files of none", s.Count())
		}
		for _, file := range append([]int{0, 1}, noFiles...) {
			sizeIs(t, s, file, 0)
			for _, index := range append([]int{0, 1}, noPages...) {
				refuses(t, s, key(file, index))
			}
		}
		if s.Writes() != 0 {
			t.Errorf("%d written", s.Writes())
		}
	}
}

// The chapter's example.
func TestExample(t *testing.T) {
	want := "\x2d\x2e\x2f\x30\x31\x32\x33\x34\x35\x36\x37\x38\x39\x3a\x3b\x3c"
	if x := First(key(1, 2)); x != want {
		t.Errorf("%q", x)
	}
	reads(t, New([]int{0, 3}), key(1, 2), want)
}

func TestFirst(t *testing.T) {
	for _, x := range []struct {
		k     api.Key
		start byte
	}{
		{key(0, 0), 0}, {key(0, 1), 7}, {key(1, 0), 31}, {key(1, 1), 38}, {key(0, 36), 252}, {key(0, 37), 3}, {key(8, 1), 255},
		{key(31, 4095), 186}, {key(-1, 0), 225}, {key(0, -1), 249}, {key(-1, -1), 218}, {key(256, 256), 0}, {key(-256, 0), 0},
		{key(math.MaxInt, 0), 225}, {key(math.MinInt, 0), 0}, {key(0, math.MaxInt), 249}, {key(0, math.MinInt), 0},
		{key(math.MaxInt, math.MaxInt), 218}, {key(math.MinInt, math.MinInt), 0}, {key(math.MinInt, math.MaxInt), 249},
	} {
		if got := First(x.k); len(got) != 16 || got[0] != x.start {
			t.Errorf("First(%v): %q, want it to begin with %d", x.k, got, x.start)
		}
		if got := First(x.k); got != first(x.k) {
			t.Errorf("First(%v): %q, want %q", x.k, got, first(x.k))
		}
	}
}

// First asks for no store: any key has its bytes, also one of which no store has a page.
func TestFirstOfAnyKey(t *testing.T) {
	ends := slices.Concat(noFiles, noPages, []int{0, 1, 2, 7, 8, 31, 36, 37, 4095})
	for _, file := range ends {
		for _, index := range ends {
			if got := First(key(file, index)); got != first(key(file, index)) {
				t.Fatalf("First of %d, %d: %q", file, index, got)
			}
		}
	}
	next := steps(4)
	for range 2000 {
		k := key(int(next()), int(next()))
		if got := First(k); got != first(k) {
			t.Fatalf("First(%v): %q, want %q", k, got, first(k))
		}
	}
}

// Writing to pages changes nothing of what they have at first.
func TestFirstStays(t *testing.T) {
	s := New([]int{3})
	writes(t, s, key(0, 1), early)
	if got := First(key(0, 1)); got != first(key(0, 1)) {
		t.Errorf("%q", got)
	}
	reads(t, New([]int{3}), key(0, 1), first(key(0, 1)))
}

func TestWrite(t *testing.T) {
	s := New([]int{2, 0, 3})
	want := firsts(2, 0, 3)
	for _, x := range []struct {
		k    api.Key
		text string
	}{
		{key(0, 0), early}, {key(2, 2), later}, {key(0, 1), blank}, {key(2, 0), early}, {key(0, 0), later}, {key(0, 0), later},
		{key(2, 1), "äöüäöüäö"}, {key(2, 2), "\xff\xfe\x80\x00\x7f" + early[5:]}, {key(0, 0), first(key(0, 0))}, {key(2, 0), first(key(2, 1))},
	} {
		writes(t, s, x.k, x.text)
		want[x.k] = x.text
		holds(t, s, want)
	}
}

func TestAnyByte(t *testing.T) {
	s := New([]int{1, 1})
	for b := range 256 {
		for at := range api.PageSize {
			text := early[:at] + string([]byte{byte(b)}) + early[at+1:]
			writes(t, s, key(1, 0), text)
			reads(t, s, key(1, 0), text)
		}
	}
	reads(t, s, key(0, 0), first(key(0, 0)))
}

// A page is one of its file alone, also where files and pages have like numbers, or begin with like bytes.
func TestOthersStay(t *testing.T) {
	s := New([]int{40, 40, 40, 40, 40, 40, 40, 40})
	for _, k := range []api.Key{key(1, 2), key(2, 1), key(0, 31), key(7, 0), key(0, 0), key(7, 39), key(3, 3)} {
		want := map[api.Key]string{}
		for file := range 8 {
			for index := range 40 {
				want[key(file, index)], _ = s.Read(key(file, index))
			}
		}
		writes(t, s, k, later)
		want[k] = later
		holds(t, s, want)
	}
}

// All pages of the greatest store are there at once, each with its own.
func TestGreatest(t *testing.T) {
	s := New(slices.Repeat([]int{math.MaxInt}, 33))
	text := func(file, index int) string {
		return early[:12] + string([]byte{byte(file), byte(index), byte(index >> 8), '!'})
	}
	for file := range 32 {
		for index := range 4096 {
			writes(t, s, key(file, index), text(file, index))
		}
	}
	for file := range 32 {
		for index := range 4096 {
			reads(t, s, key(file, index), text(file, index))
		}
	}
	for i := range 32 {
		refuses(t, s, key(i, 4096))
		refuses(t, s, key(i, -1))
		refuses(t, s, key(32, i))
		refuses(t, s, key(-1, i))
	}
	writesAre(t, s, 32*4096)
}

func TestRefused(t *testing.T) {
	s := New([]int{2, -1, 5000})
	want := firsts(2, 0, 4096)
	for _, k := range []api.Key{key(0, 1), key(2, 0), key(2, 4095)} {
		writes(t, s, k, early)
		want[k] = early
	}
	for _, k := range []api.Key{key(0, 2), key(1, 0), key(1, 1), key(2, 4096), key(3, 0), key(-1, 0), key(0, -1), key(2, -1), key(-1, -1)} {
		refuses(t, s, k)
	}
	for _, index := range noPages {
		refuses(t, s, key(0, index))
		refuses(t, s, key(2, index))
	}
	for _, file := range noFiles {
		refuses(t, s, key(file, 1))
	}
	for _, k := range []api.Key{key(0, 0), key(0, 1), key(2, 0), key(2, 4095)} {
		for _, text := range noTexts {
			is(t, "Write of "+text, s.Write(k, text), api.ErrArg)
			reads(t, s, k, want[k])
		}
	}
	holds(t, s, want)
	writesAre(t, s, 3)
	if s.Count() != 3 || s.Size(0) != 2 || s.Size(1) != 0 || s.Size(2) != 4096 {
		t.Error(s.Count(), s.Size(0), s.Size(1), s.Size(2))
	}
}

// Where there is no such page, and the text is wrong, too, the page is told: that stands first.
func TestWhichError(t *testing.T) {
	s := New([]int{2, 0})
	for _, text := range noTexts {
		for _, k := range []api.Key{key(0, 2), key(0, -1), key(1, 0), key(2, 0), key(-1, 0)} {
			is(t, "Write to none", s.Write(k, text), api.ErrNone)
		}
		is(t, "Write", s.Write(key(0, 1), text), api.ErrArg)
	}
	is(t, "Write of 15", s.Write(key(0, 0), early[:15]), api.ErrArg)
	is(t, "Write of 16", s.Write(key(0, 0), early), api.OK)
	is(t, "Write of 17", s.Write(key(0, 0), later+"x"), api.ErrArg)
	reads(t, s, key(0, 0), early)
	writesAre(t, s, 1)
}

// A write counts, whether the page had others, the same, or what it has at first; reading, and what is refused, does not.
func TestWrites(t *testing.T) {
	s := New([]int{2, 2})
	writesAre(t, s, 0)
	for n, text := range []string{early, early, later, first(key(0, 1)), blank} {
		writes(t, s, key(0, 1), text)
		writesAre(t, s, n+1)
		reads(t, s, key(0, 1), text)
		is(t, "Write of 15", s.Write(key(0, 1), early[:15]), api.ErrArg)
		refuses(t, s, key(0, 2))
		writesAre(t, s, n+1)
	}
	writes(t, s, key(1, 0), early)
	writes(t, s, key(0, 0), early)
	writesAre(t, s, 7)
}

func TestReadStays(t *testing.T) {
	s := New([]int{1})
	k := key(0, 0)
	atFirst, e := s.Read(k)
	is(t, "Read", e, api.OK)
	writes(t, s, k, early)
	then, e := s.Read(k)
	is(t, "Read", e, api.OK)
	writes(t, s, k, later)
	if atFirst != first(k) || then != early {
		t.Errorf("what was read is %q, %q now", atFirst, then)
	}
	reads(t, s, k, later)
}

// A page keeps what it was given, whatever becomes of the bytes that the text was made of.
func TestWriteKeepsItsOwn(t *testing.T) {
	s := New([]int{1})
	l := []byte(early)
	writes(t, s, key(0, 0), string(l))
	clear(l)
	reads(t, s, key(0, 0), early)
}

func TestSizesStay(t *testing.T) {
	sizes := []int{2, -1, 5000, math.MinInt, math.MaxInt, 0, 7}
	was := slices.Clone(sizes)
	s := New(sizes[:4])
	writes(t, s, key(2, 9), early)
	if !slices.Equal(sizes, was) {
		t.Errorf("the sizes are %v now", sizes)
	}
	for i := range sizes {
		sizes[i] = 11
	}
	if s.Count() != 4 || s.Size(0) != 2 || s.Size(1) != 0 || s.Size(2) != 4096 || s.Size(3) != 0 {
		t.Error("the store follows the list that it was made of")
	}
	refuses(t, s, key(0, 2))
	refuses(t, s, key(1, 0))
	reads(t, s, key(2, 9), early)
}

func TestTwoStores(t *testing.T) {
	sizes := []int{2, 1}
	a, b := New(sizes), New(sizes)
	writes(t, a, key(0, 1), early)
	holds(t, b, firsts(2, 1))
	writesAre(t, b, 0)
	writes(t, b, key(0, 1), later)
	writes(t, b, key(1, 0), later)
	want := firsts(2, 1)
	want[key(0, 1)] = early
	holds(t, a, want)
	writesAre(t, a, 1)
	writesAre(t, b, 2)
	c := New([]int{5})
	refuses(t, a, key(0, 4))
	reads(t, c, key(0, 4), first(key(0, 4)))
	holds(t, New(sizes), firsts(2, 1))
}

// A page has what was written to it last: held against plain texts by their keys.
func TestAgainstTexts(t *testing.T) {
	for seed, sizes := range [][]int{{1}, {3, 0, 2}, {5, 1, 4, 4}, {30, 30}} {
		next := steps(uint64(seed))
		s := New(sizes)
		want := firsts(sizes...)
		count := 0
		for range 3000 {
			k := key(int(next()%uint64(len(sizes)+2))-1, int(next()%32)-1)
			text := mixedText(next)
			_, there := want[k]
			switch {
			case !there:
				is(t, "Write", s.Write(k, text), api.ErrNone)
			case len(text) != 16:
				is(t, "Write", s.Write(k, text), api.ErrArg)
			default:
				writes(t, s, k, text)
				want[k] = text
				count++
			}
			holds(t, s, want)
			writesAre(t, s, count)
		}
	}
}

// first is what First asks for, reckoned in numbers that do not go round.
func first(k api.Key) string {
	l := make([]byte, 16)
	for i := range l {
		n := new(big.Int).Mul(big.NewInt(int64(k.File)), big.NewInt(31))
		n.Add(n, new(big.Int).Mul(big.NewInt(int64(k.Index)), big.NewInt(7)))
		n.Add(n, big.NewInt(int64(i)))
		l[i] = byte(n.Mod(n, big.NewInt(256)).Int64())
	}
	return string(l)
}

// firsts is what all pages of files of these sizes have at first.
func firsts(sizes ...int) map[api.Key]string {
	m := map[api.Key]string{}
	for file, size := range sizes {
		for index := range size {
			m[key(file, index)] = first(key(file, index))
		}
	}
	return m
}

// steps is numbers that look mixed, the same ones at each run.
func steps(x uint64) func() uint64 {
	return func() uint64 {
		x = x*6364136223846793005 + 1442695040888963407
		return x ^ x>>29
	}
}

// mixedText has 16 bytes mostly, 15 or 17 sometimes.
func mixedText(next func() uint64) string {
	n := 16
	switch next() % 8 {
	case 0:
		n = 15
	case 1:
		n = 17
	}
	l := make([]byte, n)
	for i := range l {
		l[i] = byte(next())
	}
	return string(l)
}

func key(file, index int) api.Key { return api.Key{File: file, Index: index} }

func is(t *testing.T, what string, got, want api.Errno) {
	t.Helper()
	if got != want {
		t.Fatalf("%s: %v, want %v", what, got, want)
	}
}

func sizeIs(t *testing.T, s *Store, file, want int) {
	t.Helper()
	if n := s.Size(file); n != want {
		t.Fatalf("Size(%d): %d, want %d", file, n, want)
	}
}

func writesAre(t *testing.T, s *Store, want int) {
	t.Helper()
	if n := s.Writes(); n != want {
		t.Fatalf("Writes: %d, want %d", n, want)
	}
}

func reads(t *testing.T, s *Store, k api.Key, want string) {
	t.Helper()
	if text, e := s.Read(k); text != want || e != api.OK {
		t.Fatalf("Read(%v): %q, %v, want %q", k, text, e, want)
	}
}

// writes sees that a text is taken, and counted once.
func writes(t *testing.T, s *Store, k api.Key, text string) {
	t.Helper()
	n := s.Writes()
	if e := s.Write(k, text); e != api.OK || s.Writes() != n+1 {
		t.Fatalf("Write(%v, %q): %v, and %d written, %d ahead", k, text, e, s.Writes(), n)
	}
}

// holds sees that each of these pages has its text.
func holds(t *testing.T, s *Store, want map[api.Key]string) {
	t.Helper()
	for k, text := range want {
		reads(t, s, k, text)
	}
}

// refuses sees that no call takes a page that there is not, and that nothing is counted.
func refuses(t *testing.T, s *Store, k api.Key) {
	t.Helper()
	n := s.Writes()
	for _, text := range append([]string{early, blank}, noTexts...) {
		if e := s.Write(k, text); e != api.ErrNone {
			t.Fatalf("Write(%v, %q): %v", k, text, e)
		}
	}
	if text, e := s.Read(k); text != "" || e != api.ErrNone {
		t.Fatalf("Read(%v): %q, %v", k, text, e)
	}
	writesAre(t, s, n)
}
