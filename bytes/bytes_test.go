package bytes

import (
	"math"
	"slices"
	"strings"
	"testing"

	"millpond/api"
)

const (
	blank = "\x00\x00\x00\x00\x00\x00\x00\x00\x00\x00\x00\x00\x00\x00\x00\x00"
	early = "0123456789abcdef"
	later = "fedcba9876543210"
)

// Numbers that no store has as a page.
var strangers = []int{math.MinInt, math.MinInt + 1, -1025, -1024, -17, -16, -1, 1024, 1025, 65536, 1 << 32, math.MaxInt - 1, math.MaxInt}

// Numbers that no page has as a byte.
var noBytes = []int{math.MinInt, math.MinInt + 1, -17, -16, -15, -1, 16, 17, 31, 32, 255, 256, 1 << 32, math.MaxInt - 1, math.MaxInt}

// Texts that no page can have.
var noTexts = []string{"", "a", blank[:15], early[:15], early + "g", blank + "\x00", early + early, "äöüäöüäöüäöüäöüä", strings.Repeat("x", 1000)}

func TestNew(t *testing.T) {
	for _, x := range []struct{ n, want int }{
		{math.MinInt, 0}, {-1024, 0}, {-2, 0}, {-1, 0}, {0, 0}, {1, 1}, {2, 2}, {15, 15}, {16, 16}, {17, 17},
		{1023, 1023}, {1024, 1024}, {1025, 1024}, {2000, 1024}, {65536, 1024}, {65537, 1024}, {math.MaxInt, 1024},
	} {
		s := New(x.n)
		if s.Len() != x.want {
			t.Errorf("New(%d): %d pages, want %d", x.n, s.Len(), x.want)
		}
		for page := range s.Len() {
			reads(t, s, page, blank)
		}
		refusesAll(t, s, s.Len())
		refusesAll(t, s, -1)
	}
}

func TestNoPages(t *testing.T) {
	for _, n := range []int{math.MinInt, -1, 0} {
		s := New(n)
		for _, page := range append([]int{0, 1}, strangers...) {
			refusesAll(t, s, page)
		}
		if s.Len() != 0 {
			t.Errorf("New(%d) has %d pages", n, s.Len())
		}
	}
}

// The chapter's example.
func TestExample(t *testing.T) {
	s := New(2)
	is(t, "Put(1, 3, 7)", s.Put(1, 3, 7), api.OK)
	is(t, "Move(1, 0)", s.Move(1, 0), api.OK)
	gets(t, s, 0, 3, 7)
	gets(t, s, 1, 3, 0)
	reads(t, s, 0, "\x00\x00\x00\x07"+blank[4:])
	reads(t, s, 1, blank)
}

func TestWrite(t *testing.T) {
	s := New(3)
	is(t, "Write", s.Write(1, early), api.OK)
	holds(t, s, blank, early, blank)
	is(t, "Write of the same", s.Write(1, early), api.OK)
	holds(t, s, blank, early, blank)
	is(t, "Write of another", s.Write(1, later), api.OK)
	holds(t, s, blank, later, blank)
	is(t, "Write to the first", s.Write(0, early), api.OK)
	is(t, "Write to the last", s.Write(2, "äöüäöüäö"), api.OK)
	holds(t, s, early, later, "äöüäöüäö")
	is(t, "Write of noughts", s.Write(1, blank), api.OK)
	holds(t, s, early, blank, "äöüäöüäö")
}

// A text that differs at one place alone is written, too.
func TestWriteOneOff(t *testing.T) {
	for at := range api.PageSize {
		s := New(2)
		is(t, "Write", s.Write(1, early), api.OK)
		text := early[:at] + "!" + early[at+1:]
		is(t, "Write", s.Write(1, text), api.OK)
		holds(t, s, blank, text)
	}
}

func TestAnyByte(t *testing.T) {
	s := New(3)
	for v := range 256 {
		b := byte(v)
		for at := range api.PageSize {
			is(t, "Put", s.Put(1, at, b), api.OK)
			gets(t, s, 1, at, b)
		}
		all := strings.Repeat(string([]byte{b}), api.PageSize)
		holds(t, s, blank, all, blank)
		is(t, "Write", s.Write(2, all), api.OK)
		holds(t, s, blank, all, all)
		is(t, "Move", s.Move(2, 0), api.OK)
		holds(t, s, all, all, blank)
		is(t, "Clear", s.Clear(0), api.OK)
		holds(t, s, blank, all, blank)
	}
}

func TestPutAlone(t *testing.T) {
	for at := range api.PageSize {
		s := New(3)
		is(t, "Write", s.Write(1, early), api.OK)
		is(t, "Put", s.Put(1, at, 0xff), api.OK)
		holds(t, s, blank, early[:at]+"\xff"+early[at+1:], blank)
		for k := range api.PageSize {
			if k != at {
				gets(t, s, 1, k, early[k])
			}
		}
		is(t, "Put of what was there", s.Put(1, at, early[at]), api.OK)
		holds(t, s, blank, early, blank)
	}
}

func TestMove(t *testing.T) {
	s := New(4)
	is(t, "Write", s.Write(0, early), api.OK)
	is(t, "Write", s.Write(3, later), api.OK)
	is(t, "Move to noughts", s.Move(0, 1), api.OK)
	holds(t, s, blank, early, blank, later)
	is(t, "Move to what has others", s.Move(1, 3), api.OK)
	holds(t, s, blank, blank, blank, early)
	is(t, "Move from the last to the first", s.Move(3, 0), api.OK)
	holds(t, s, early, blank, blank, blank)
	is(t, "Move of noughts", s.Move(1, 0), api.OK)
	holds(t, s, blank, blank, blank, blank)
	is(t, "Move of noughts to noughts", s.Move(2, 3), api.OK)
	holds(t, s, blank, blank, blank, blank)
}

func TestMoveOfTheSameBytes(t *testing.T) {
	s := New(3)
	is(t, "Write", s.Write(0, early), api.OK)
	is(t, "Write", s.Write(2, early), api.OK)
	is(t, "Move", s.Move(0, 2), api.OK)
	holds(t, s, blank, blank, early)
}

// What was moved is a page's own: the one that it came from may be written again.
func TestMoveSharesNothing(t *testing.T) {
	s := New(2)
	is(t, "Write", s.Write(0, early), api.OK)
	is(t, "Move", s.Move(0, 1), api.OK)
	is(t, "Put", s.Put(0, 5, 'x'), api.OK)
	holds(t, s, blank[:5]+"x"+blank[6:], early)
	is(t, "Put", s.Put(1, 6, 'y'), api.OK)
	holds(t, s, blank[:5]+"x"+blank[6:], early[:6]+"y"+early[7:])
}

func TestMoveToItself(t *testing.T) {
	s := New(3)
	is(t, "Write", s.Write(0, early), api.OK)
	is(t, "Write", s.Write(2, later), api.OK)
	for page := range 3 {
		is(t, "Move to itself", s.Move(page, page), api.OK)
		holds(t, s, early, blank, later)
	}
	for _, page := range append([]int{3, 4}, strangers...) {
		is(t, "Move to itself of none", s.Move(page, page), api.ErrArg)
		holds(t, s, early, blank, later)
	}
}

func TestClear(t *testing.T) {
	s := New(3)
	for page := range 3 {
		is(t, "Write", s.Write(page, early), api.OK)
	}
	is(t, "Clear", s.Clear(1), api.OK)
	holds(t, s, early, blank, early)
	is(t, "Clear again", s.Clear(1), api.OK)
	holds(t, s, early, blank, early)
	is(t, "Clear of the last", s.Clear(2), api.OK)
	is(t, "Clear of the first", s.Clear(0), api.OK)
	holds(t, s, blank, blank, blank)
}

// A page that has one byte alone is cleared, wherever that stands.
func TestClearOfOneByte(t *testing.T) {
	for at := range api.PageSize {
		s := New(1)
		is(t, "Put", s.Put(0, at, 1), api.OK)
		is(t, "Clear", s.Clear(0), api.OK)
		holds(t, s, blank)
	}
}

func TestRefused(t *testing.T) {
	s := New(3)
	want := []string{early, later, "\xff\x00\x80\x7f" + early[4:]}
	for page, text := range want {
		is(t, "Write", s.Write(page, text), api.OK)
	}
	for _, page := range append([]int{3, 4}, strangers...) {
		refusesAll(t, s, page)
		holds(t, s, want...)
	}
	for page := range 3 {
		for _, at := range noBytes {
			refusesByte(t, s, page, at)
		}
		for _, text := range noTexts {
			is(t, "Write of "+text, s.Write(page, text), api.ErrArg)
		}
		holds(t, s, want...)
	}
}

// The last page and the last byte of the greatest store are there, and those behind are not.
func TestEnds(t *testing.T) {
	s := New(math.MaxInt)
	is(t, "Put", s.Put(1023, 15, 9), api.OK)
	is(t, "Put", s.Put(0, 0, 8), api.OK)
	gets(t, s, 1023, 15, 9)
	gets(t, s, 0, 0, 8)
	is(t, "Move", s.Move(1023, 1), api.OK)
	gets(t, s, 1, 15, 9)
	gets(t, s, 1023, 15, 0)
	refusesAll(t, s, 1024)
	refusesByte(t, s, 1023, 16)
	for page := 2; page < 1024; page++ {
		reads(t, s, page, blank)
	}
}

func TestReadStays(t *testing.T) {
	s := New(2)
	is(t, "Write", s.Write(0, early), api.OK)
	old, e := s.Read(0)
	is(t, "Read", e, api.OK)
	for _, change := range []func() api.Errno{
		func() api.Errno { return s.Put(0, 3, 'x') },
		func() api.Errno { return s.Write(0, later) },
		func() api.Errno { return s.Move(0, 1) },
		func() api.Errno { return s.Clear(1) },
	} {
		is(t, "a change", change(), api.OK)
		if old != early {
			t.Fatalf("what was read is %q now", old)
		}
	}
}

// A page keeps what it was given, whatever becomes of the bytes that the text was made of.
func TestWriteKeepsItsOwn(t *testing.T) {
	s := New(1)
	l := []byte(early)
	is(t, "Write", s.Write(0, string(l)), api.OK)
	clear(l)
	is(t, "Put", s.Put(0, 0, '0'), api.OK)
	holds(t, s, early)
}

func TestTwoStores(t *testing.T) {
	a, b := New(2), New(2)
	is(t, "Write", a.Write(0, early), api.OK)
	holds(t, b, blank, blank)
	is(t, "Write", b.Write(1, later), api.OK)
	holds(t, a, early, blank)
	is(t, "Move", a.Move(0, 1), api.OK)
	holds(t, b, blank, later)
	is(t, "Clear", b.Clear(1), api.OK)
	holds(t, a, blank, early)
	is(t, "Put", b.Put(1, 1, 1), api.OK)
	holds(t, a, blank, early)
	holds(t, New(2), blank, blank)
}

// A page has what was written to it last, and no other one has: held against a plain list of texts.
func TestAgainstTexts(t *testing.T) {
	for _, n := range []int{1, 2, 5, 40} {
		next := steps(uint64(n))
		s := New(n)
		want := slices.Repeat([]string{blank}, n)
		for range 4000 {
			page, to := int(next()%uint64(n+2))-1, int(next()%uint64(n+2))-1
			at, b := int(next()%18)-1, byte(next())
			there := page >= 0 && page < n
			switch next() % 4 {
			case 0:
				text := mixedText(next)
				ok := there && len(text) == 16
				is(t, "Write", s.Write(page, text), okIf(ok))
				if ok {
					want[page] = text
				}
			case 1:
				ok := there && at >= 0 && at < 16
				is(t, "Put", s.Put(page, at, b), okIf(ok))
				if ok {
					want[page] = want[page][:at] + string([]byte{b}) + want[page][at+1:]
				}
			case 2:
				ok := there && to >= 0 && to < n
				is(t, "Move", s.Move(page, to), okIf(ok))
				if ok && page != to {
					want[to], want[page] = want[page], blank
				}
			case 3:
				is(t, "Clear", s.Clear(page), okIf(there))
				if there {
					want[page] = blank
				}
			}
			holds(t, s, want...)
		}
	}
}

// steps is numbers that look mixed, the same ones at each run.
func steps(x uint64) func() uint64 {
	return func() uint64 {
		x = x*6364136223846793005 + 1442695040888963407
		return x ^ x>>29
	}
}

// mixedText has 16 bytes mostly, 15 or 17 sometimes; few kinds of bytes, so that some pages are alike.
func mixedText(next func() uint64) string {
	n := 16
	switch next() % 8 {
	case 0:
		n = 15
	case 1:
		n = 17
	}
	l := make([]byte, n)
	for i := range l {
		l[i] = byte(next() % 3 * 127)
	}
	return string(l)
}

func okIf(ok bool) api.Errno {
	if ok {
		return api.OK
	}
	return api.ErrArg
}

func is(t *testing.T, what string, got, want api.Errno) {
	t.Helper()
	if got != want {
		t.Fatalf("%s: %v, want %v", what, got, want)
	}
}

func reads(t *testing.T, s *Store, page int, want string) {
	t.Helper()
	if text, e := s.Read(page); text != want || e != api.OK {
		t.Fatalf("Read(%d): %q, %v, want %q", page, text, e, want)
	}
}

func gets(t *testing.T, s *Store, page, at int, want byte) {
	t.Helper()
	if b, e := s.Get(page, at); b != want || e != api.OK {
		t.Fatalf("Get(%d, %d): %d, %v, want %d", page, at, b, e, want)
	}
}

// holds sees that a store has these pages, and no more, by Read and by Get.
func holds(t *testing.T, s *Store, want ...string) {
	t.Helper()
	if s.Len() != len(want) {
		t.Fatalf("%d pages, want %d", s.Len(), len(want))
	}
	for page, text := range want {
		reads(t, s, page, text)
		gets(t, s, page, page%api.PageSize, text[page%api.PageSize])
	}
}

func refusesByte(t *testing.T, s *Store, page, at int) {
	t.Helper()
	if b, e := s.Get(page, at); b != 0 || e != api.ErrArg {
		t.Fatalf("Get(%d, %d): %d, %v", page, at, b, e)
	}
	if e := s.Put(page, at, 0x55); e != api.ErrArg {
		t.Fatalf("Put(%d, %d): %v", page, at, e)
	}
}

// refusesAll sees that no call takes a page that there is not.
func refusesAll(t *testing.T, s *Store, page int) {
	t.Helper()
	if text, e := s.Read(page); text != "" || e != api.ErrArg {
		t.Fatalf("Read(%d): %q, %v", page, text, e)
	}
	for _, text := range append([]string{early, blank}, noTexts...) {
		is(t, "Write to none", s.Write(page, text), api.ErrArg)
	}
	for _, at := range append([]int{0, 7, 15}, noBytes...) {
		refusesByte(t, s, page, at)
	}
	is(t, "Clear of none", s.Clear(page), api.ErrArg)
	is(t, "Move of none to itself", s.Move(page, page), api.ErrArg)
	for _, other := range append([]int{0, s.Len() - 1, s.Len()}, strangers...) {
		is(t, "Move of none", s.Move(page, other), api.ErrArg)
		is(t, "Move to none", s.Move(other, page), api.ErrArg)
	}
}
