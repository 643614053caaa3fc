package control

import (
	"math"
	"math/big"
	"regexp"
	"slices"
	"strconv"
	"strings"
	"testing"

	"millpond/api"
)

const most = 1 << 40 // the greatest limit

// The files that hold a limit, by their numbers; the last one, 4, holds 0 or 1.
var limitFiles = []string{"memory.min", "memory.low", "memory.max", "swap.max"}

const groupFile = "memory.oom.group"

var allFiles = append(slices.Clone(limitFiles), groupFile)

// Numbers at the ends, and beside them.
var edges = []int{
	math.MinInt, math.MinInt + 1, -most - 1, -most, -most + 1, -1 << 32, -1024, -10, -9, -2, -1,
	0, 1, 2, 9, 10, 11, 99, 100, 1023, 1024, 1025, 1<<30 - 1, 1 << 30, 1<<30 + 1, 999999999999, 1000000000000,
	most - 1024, most - 1, most, most + 1, most + 1024, 9999999999999, 10000000000000, 1 << 54, 1 << 62, math.MaxInt - 1, math.MaxInt,
}

// Endings that are not one byte 0a.
var wrongEnds = []string{
	"\n\n", "\r\n", "\n\r", "\r", "\x00", "\n\x00", "\v", "\f", "\x1e", "\u0085", "\x85", "\u2028", " ", " \n", "\n ", "\t", "\\n", "\n\n\n",
}

var limitForm = regexp.MustCompile(`\A(?:max|(0|[1-9][0-9]{0,12})(K?))\n?\z`)

// limitTold is what a text lets a limit be, by the chapter's words.
func limitTold(text string) (int, bool) {
	found := limitForm.FindStringSubmatch(text)
	if found == nil {
		return 0, false
	}
	if found[1] == "" {
		return most, true
	}
	n, _ := new(big.Int).SetString(found[1], 10)
	if found[2] == "K" {
		n.Mul(n, big.NewInt(1024))
	}
	if n.Cmp(big.NewInt(most)) > 0 {
		return 0, false
	}
	return int(n.Int64()), true
}

// readTold is what Read must answer.
func readTold(name, text string) (int, int, api.Errno) {
	if name == groupFile {
		switch text {
		case "0", "0\n":
			return 4, 0, api.OK
		case "1", "1\n":
			return 4, 1, api.OK
		}
		return -1, 0, api.ErrForm
	}
	at := slices.Index(limitFiles, name)
	if at < 0 {
		return -1, 0, api.ErrNone
	}
	n, ok := limitTold(text)
	if !ok {
		return -1, 0, api.ErrForm
	}
	return at, n, api.OK
}

// reads tells whether Read answers this.
func reads(t *testing.T, name, text string, wantAt, wantN int, want api.Errno) {
	t.Helper()
	if at, n, e := Read(name, text); at != wantAt || n != wantN || e != want {
		t.Fatalf("Read(%.60q, %.60q): %d, %d, %v, want %d, %d, %v", name, text, at, n, e, wantAt, wantN, want)
	}
}

// readsTold tells whether Read answers what it must of a text, in each file.
func readsTold(t *testing.T, texts ...string) {
	t.Helper()
	for _, text := range texts {
		for _, name := range allFiles {
			at, n, e := readTold(name, text)
			reads(t, name, text, at, n, e)
		}
	}
}

// limits tells whether each limit is n by this text, also with 0a behind it, and by no text that has something else there, or 0a ahead.
func limits(t *testing.T, text string, n int) {
	t.Helper()
	for at, name := range limitFiles {
		reads(t, name, text, at, n, api.OK)
		reads(t, name, text+"\n", at, n, api.OK)
		reads(t, name, "\n"+text, -1, 0, api.ErrForm)
		reads(t, name, "\n"+text+"\n", -1, 0, api.ErrForm)
		for _, end := range wrongEnds {
			reads(t, name, text+end, -1, 0, api.ErrForm)
		}
	}
}

// refused tells whether no file takes these texts, also with 0a behind them.
func refused(t *testing.T, texts ...string) {
	t.Helper()
	for _, text := range texts {
		for _, name := range allFiles {
			reads(t, name, text, -1, 0, api.ErrForm)
			reads(t, name, text+"\n", -1, 0, api.ErrForm)
		}
	}
}

// beside are all texts that have one byte less than this one, one more, or another one at one place.
func beside(text string) []string {
	var list []string
	for at := range len(text) + 1 {
		for b := range 256 {
			list = append(list, text[:at]+string([]byte{byte(b)})+text[at:])
			if at < len(text) {
				list = append(list, text[:at]+string([]byte{byte(b)})+text[at+1:])
			}
		}
		if at < len(text) {
			list = append(list, text[:at]+text[at+1:])
		}
	}
	return list
}

// spelt are all texts of up to n of these letters.
func spelt(letters []string, n int) []string {
	list, from := []string{""}, 0
	for range n {
		end := len(list)
		for _, text := range list[from:end] {
			for _, letter := range letters {
				list = append(list, text+letter)
			}
		}
		from = end
	}
	return list
}

// digits are the digits of a number that may go beyond 64 bits: by*2^shift + n.
func digits(by int64, shift uint, n int64) string {
	x := new(big.Int).Lsh(big.NewInt(by), shift)
	return x.Add(x, big.NewInt(n)).String()
}

// word is a name of n bytes that no other i has.
func word(n, i int) string {
	tail := strconv.Itoa(i)
	return strings.Repeat("w", max(0, n-len(tail))) + tail
}

// count is n names, with their values.
func count(n int) ([]string, []int) {
	var names []string
	var values []int
	for i := range n {
		names = append(names, word(1+i%40, i))
		values = append(values, edges[i%len(edges)]+i)
	}
	return names, values
}

// lines is what a stat must be, line by line.
func lines(names []string, values []int) string {
	s := ""
	for i, name := range names {
		s += name + " " + big.NewInt(int64(values[i])).String() + "\n"
	}
	return s
}

var lineForm = regexp.MustCompile(`\A([a-z0-9_]{1,40}) (0|-?[1-9][0-9]*)\n\z`)

// parseTold is what Parse must answer, by lines that are split off ahead.
func parseTold(text string) ([]string, []int, api.Errno) {
	var names []string
	var values []int
	for line := range strings.SplitAfterSeq(text, "\n") {
		if line == "" && len(names) == strings.Count(text, "\n") {
			break // what is behind the last 0a
		}
		found := lineForm.FindStringSubmatch(line)
		if found == nil || slices.Contains(names, found[1]) || len(names) == 100 {
			return nil, nil, api.ErrForm
		}
		n, _ := new(big.Int).SetString(found[2], 10)
		if !n.IsInt64() {
			return nil, nil, api.ErrForm
		}
		names = append(names, found[1])
		values = append(values, int(n.Int64()))
	}
	return names, values, api.OK
}

// parses tells whether Parse answers this.
func parses(t *testing.T, text string, wantNames []string, wantValues []int, want api.Errno) {
	t.Helper()
	names, values, e := Parse(text)
	if !slices.Equal(names, wantNames) || !slices.Equal(values, wantValues) || e != want {
		t.Fatalf("Parse(%.80q): %.80q, %v, %v, want %.80q, %v, %v", text, names, values, e, wantNames, wantValues, want)
	}
}

// parsesTold tells whether Parse answers what it must, and just what Stat makes this text of.
func parsesTold(t *testing.T, texts ...string) {
	t.Helper()
	for _, text := range texts {
		names, values, e := parseTold(text)
		parses(t, text, names, values, e)
		if e != api.OK {
			continue
		}
		if s, e := Stat(names, values); s != text || e != api.OK {
			t.Fatalf("Stat(%q, %v): %q, %v, want %q", names, values, s, e, text)
		}
	}
}

// unread tells whether Parse answers nothing of these texts.
func unread(t *testing.T, texts ...string) {
	t.Helper()
	for _, text := range texts {
		parses(t, text, nil, nil, api.ErrForm)
	}
}

// stands tells whether names and values have a stat, of which they are read again.
func stands(t *testing.T, names []string, values []int) {
	t.Helper()
	want := lines(names, values)
	if s, e := Stat(names, values); s != want || e != api.OK {
		t.Fatalf("Stat(%.80q, %v): %.80q, %v, want %.80q", names, values, s, e, want)
	}
	parses(t, want, names, values, api.OK)
}

// noStat tells whether names and values have no stat.
func noStat(t *testing.T, names []string, values []int) {
	t.Helper()
	if s, e := Stat(names, values); s != "" || e != api.ErrArg {
		t.Fatalf("Stat(%.80q, %v): %.80q, %v", names, values, s, e)
	}
}

func TestExample(t *testing.T) {
	reads(t, "memory.max", "4K", 2, 4096, api.OK)
}

func TestFiles(t *testing.T) {
	for at, name := range []string{"memory.min", "memory.low", "memory.max", "swap.max", "memory.oom.group"} {
		for n, text := range []string{"0", "1"} {
			reads(t, name, text, at, n, api.OK)
			reads(t, name, text+"\n", at, n, api.OK)
		}
		reads(t, name, "", -1, 0, api.ErrForm)
		reads(t, name, name, -1, 0, api.ErrForm)
	}
}

func TestNoFile(t *testing.T) {
	names := []string{
		"", "m", "memory", "memory.", ".max", "max", "min", "swap", "swap.", "memory.high", "memory.swap.max", "swap.min", "swap.low",
		"memory.current", "memory.stat", "swap.current", "cgroup.procs", "memory.oom", "oom.group", "memory.oom.group.group", "memory.group",
		"MEMORY.MAX", "Memory.Max", "memory.maxmemory.max", "memory.min memory.low", "memory max", "memorymax", "memory/max", "./memory.max",
		"\n", "\x00", "0", "4K", strings.Repeat("memory.max", 1000),
	}
	for _, name := range allFiles {
		names = append(names, beside(name)...)
		names = append(names, strings.ToUpper(name), name+"\n", "\n"+name, " "+name, name+"\x00")
	}
	texts := []string{"0", "1", "0\n", "5", "4K\n", "max", "max\n", strconv.Itoa(most), "", "\n", "x", "01", strconv.Itoa(most + 1), "\xff"}
	for _, name := range names {
		if slices.Contains(allFiles, name) {
			continue
		}
		for _, text := range texts {
			reads(t, name, text, -1, 0, api.ErrNone)
		}
	}
}

func TestReadMax(t *testing.T) {
	limits(t, "max", most)
	for _, text := range beside("max") {
		if text == "max" || text == "max\n" {
			continue
		}
		for _, name := range limitFiles {
			reads(t, name, text, -1, 0, api.ErrForm)
		}
	}
	refused(t, "maxK", "Kmax", "maxmax", "max0", "0max", "MAX", "Max", "m", "ma", "max max", "-max", "max\x00")
}

func TestReadDigits(t *testing.T) {
	for _, n := range []int{0, 1, 2, 9, 10, 42, 4096, 99999, 1 << 20, 1 << 32, 999999999999, 1000000000000, 1099511627775} {
		limits(t, strconv.Itoa(n), n)
	}
	limits(t, "1099511627776", most)
	for n := range 2000 {
		readsTold(t, strconv.Itoa(n), strconv.Itoa(most-n)+"\n", strconv.Itoa(most+n))
	}
	refused(t,
		"1099511627777", "1099511627778", "1099511627786", "1999999999999", "2000000000000", "9999999999999",
		"10000000000000", "10995116277760", "99999999999999", "100000000000000",
		"00", "000", "01", "007", "0000000000000", "00000000000000", "01099511627776", "0109951162777", "00max",
		"-0", "-1", "-5", "+0", "+5", "--5", "-", "+", "5-", "1.0", "1e3", "0x10", "0b1", "0o7", "1_000", "1,000", "5 ", " 5", "5 5", "5\t",
	)
}

func TestReadK(t *testing.T) {
	for _, n := range []int{0, 1, 2, 4, 10, 1023, 1024, 1 << 20, 999999999, 1<<30 - 1, 1 << 30} {
		limits(t, strconv.Itoa(n)+"K", n*1024)
	}
	for n := range 2000 {
		readsTold(t, strconv.Itoa(n)+"K", strconv.Itoa(1<<30-n)+"K\n", strconv.Itoa(1<<30+n)+"K")
	}
	refused(t,
		"1073741825K", "1073741826K", "1073741834K", "1999999999K", "9999999999K", "1099511627775K", "1099511627776K", "9999999999999K",
		"10000000000000K", "99999999999999K",
		"K", "KK", "4KK", "K4", "K4K", "4K4", "maxK", "4k", "4 K", "4K ", " 4K", "4M", "4G", "4KB", "4Ki", "4KiB", "4B", "4\nK", "4K\nK",
		"00K", "04K", "01073741824K", "-0K", "-4K", "-1073741824K", "+4K", "4.5K", "4\u212a",
	)
}

// What goes round at 64 bits, also by the K alone, is not read as what it goes round to.
func TestReadBeyondWords(t *testing.T) {
	for by := int64(1); by < 70; by++ {
		for _, n := range []int64{-most, -1, 0, 1, 2, 1000, 1 << 30, most - 1, most, most + 1} {
			for _, shift := range []uint{53, 54, 63, 64, 65, 128, 1000} {
				refused(t, digits(by, shift, n), digits(by, shift, n)+"K")
			}
		}
	}
	for n := 13; n < 200; n++ {
		refused(t, strings.Repeat("9", n), strings.Repeat("9", n)+"K", "1"+strings.Repeat("0", n), "1"+strings.Repeat("0", n)+"K")
		refused(t, strings.Repeat("0", n), strings.Repeat("0", n)+"1", strings.Repeat("0", n)+"K", strings.Repeat("0", n)+"1K")
	}
}

func TestReadGroup(t *testing.T) {
	for n, text := range []string{"0", "1"} {
		reads(t, groupFile, text, 4, n, api.OK)
		reads(t, groupFile, text+"\n", 4, n, api.OK)
		reads(t, groupFile, "\n"+text, -1, 0, api.ErrForm)
		for _, end := range wrongEnds {
			reads(t, groupFile, text+end, -1, 0, api.ErrForm)
		}
		for _, text := range beside(text) {
			at, n, e := readTold(groupFile, text)
			reads(t, groupFile, text, at, n, e)
		}
	}
	for _, text := range []string{
		"", "\n", "2", "3", "9", "10", "11", "00", "01", "-0", "-1", "+1", "0K", "1K", "K", "max", "maxK", "true", "false", "yes", "1 ", " 1",
		strconv.Itoa(most), strconv.Itoa(math.MaxInt), digits(1, 64, 0), digits(1, 64, 1), digits(-1, 64, 1),
	} {
		reads(t, groupFile, text, -1, 0, api.ErrForm)
		reads(t, groupFile, text+"\n", -1, 0, api.ErrForm)
	}
}

func TestReadNothing(t *testing.T) {
	refused(t, "", "\n", "\n\n", "\r", "\r\n", "\x00", " ", "\t", "\xff", "\xff\xfe", "\xc3\x28", "\u0660", "\uff11", "\u00e4", "\U0001f600")
	for b := range 256 {
		readsTold(t, string([]byte{byte(b)}), string([]byte{byte(b), '\n'}), string([]byte{'\n', byte(b)}))
	}
}

func TestReadBeside(t *testing.T) {
	for _, text := range []string{
		"0", "0\n", "7", "10", "max\n", "4K", "4K\n", "0K", "1099511627776", "1099511627776\n", "1099511627775", "1073741824K", "1073741824K\n",
	} {
		readsTold(t, text)
		readsTold(t, beside(text)...)
	}
}

func TestReadShort(t *testing.T) {
	readsTold(t, spelt([]string{"0", "1", "9", "K", "k", "-", "+", " ", "\n", "max"}, 4)...)
}

func TestShow(t *testing.T) {
	for _, x := range []struct {
		n    int
		want string
	}{
		{0, "0"}, {1, "1"}, {7, "7"}, {10, "10"}, {4096, "4096"}, {-1, "-1"}, {-10, "-10"},
		{1099511627775, "1099511627775"}, {1099511627776, "max"}, {1099511627777, "1099511627777"}, {-1099511627776, "-1099511627776"},
		{math.MaxInt, "9223372036854775807"}, {math.MinInt, "-9223372036854775808"}, {math.MinInt + 1, "-9223372036854775807"},
	} {
		if got := Show(x.n); got != x.want {
			t.Errorf("Show(%d): %q, want %q", x.n, got, x.want)
		}
	}
	for _, n := range edges {
		for d := -1100; d <= 1100; d++ {
			want := big.NewInt(int64(n + d)).String()
			if n+d == most {
				want = "max"
			}
			if got := Show(n + d); got != want {
				t.Fatalf("Show(%d): %q", n+d, got)
			}
		}
	}
}

// What is shown is read again; what is shown of no limit is not read.
func TestShownIsRead(t *testing.T) {
	var list []int
	for _, n := range edges {
		list = append(list, n, n+3, n-3)
	}
	for bit := range 41 {
		list = append(list, 1<<bit-1, 1<<bit, 1<<bit+1)
	}
	for n, ten := 0, 1; n < 13; n, ten = n+1, ten*10 {
		list = append(list, ten-1, ten, ten+1)
	}
	for _, n := range list {
		if n >= 0 && n <= most {
			limits(t, Show(n), n)
		} else {
			refused(t, Show(n))
		}
	}
	reads(t, groupFile, Show(0), 4, 0, api.OK)
	reads(t, groupFile, Show(1), 4, 1, api.OK)
}

// inside tells whether a byte may stand in a word.
func inside(b int) bool {
	return strings.IndexByte("abcdefghijklmnopqrstuvwxyz0123456789_", byte(b)) >= 0
}

func TestWordLengths(t *testing.T) {
	for n := range 200 {
		for _, letter := range []string{"a", "z", "0", "9", "_"} {
			if got := Word(strings.Repeat(letter, n)); got != (n >= 1 && n <= 40) {
				t.Errorf("Word of %d %s: %v", n, letter, got)
			}
		}
	}
	for _, n := range []int{255, 256, 257, 256 + 40, 1 << 16, 1<<16 + 1, 1 << 20, 1<<20 + 40} {
		if Word(strings.Repeat("a", n)) {
			t.Errorf("Word of %d", n)
		}
	}
}

func TestWordBytes(t *testing.T) {
	for b := range 256 {
		letter := string([]byte{byte(b)})
		for n := range 40 {
			for at := range n + 1 {
				if s := strings.Repeat("a", at) + letter + strings.Repeat("z", n-at); Word(s) != inside(b) {
					t.Fatalf("Word(%q): %v", s, Word(s))
				}
			}
		}
		for c := range 256 {
			if s := string([]byte{byte(b), byte(c)}); Word(s) != (inside(b) && inside(c)) {
				t.Fatalf("Word(%q): %v", s, Word(s))
			}
		}
	}
	if !Word("abcdefghijklmnopqrstuvwxyz") || !Word("0123456789_") || !Word("_") || !Word("b_2") || !Word("7") {
		t.Error("a word is none")
	}
	for _, s := range []string{"", "A", "a b", "a-b", "memory.max", "\u00e4", "a\u00df", "\u0661", "\uff41", "a\n", "\na", "a\x00", "\xff", "a\u0301", "\u017f"} {
		if Word(s) {
			t.Errorf("Word(%q)", s)
		}
	}
}

func TestStat(t *testing.T) {
	stands(t, nil, nil)
	stands(t, []string{}, nil)
	stands(t, nil, []int{})
	stands(t, []string{"a"}, []int{0})
	stands(t, []string{"anon", "file", "dirty", "swap"}, []int{3, 0, 1, -7})
	stands(t, []string{"b", "a", "_", "0", "9z", "a_"}, []int{1, 1, 1, 1, 1, 1})
	for _, n := range edges {
		stands(t, []string{"n"}, []int{n})
		stands(t, []string{"n", "m", strings.Repeat("x", 40)}, []int{n, -n, n + 1})
	}
	// Of a stat no number is `max`.
	if s, e := Stat([]string{"a"}, []int{most}); s != "a 1099511627776\n" || e != api.OK {
		t.Error(s, e)
	}
	unread(t, "a max\n", "a 1K\n", "a 0K\n")
}

func TestStatLengths(t *testing.T) {
	for n := range 101 {
		names, values := count(n)
		stands(t, names, values)
	}
	for _, n := range []int{101, 102, 127, 128, 199, 200, 201, 256, 300, 356, 1000} {
		names, values := count(n)
		noStat(t, names, values)
		unread(t, lines(names, values))
	}
}

func TestStatCounts(t *testing.T) {
	for n := range 130 {
		names, values := count(n)
		for _, m := range []int{0, n - 2, n - 1, n + 1, n + 2, 100, 2 * n} {
			if m < 0 || m == n {
				continue
			}
			_, other := count(m)
			noStat(t, names, other)
			some, _ := count(m)
			noStat(t, some, values)
		}
	}
}

func TestStatNoWord(t *testing.T) {
	for _, n := range []int{1, 2, 3, 99, 100} {
		for at := range n {
			for _, name := range []string{"", "A", " ", "a ", " a", "a b", "-", "a.b", "\n", "a\n", "\u00e4", "\xff", "\x00", strings.Repeat("a", 41)} {
				names, values := count(n)
				names[at] = name
				noStat(t, names, values)
				unread(t, lines(names, values))
			}
		}
	}
	for b := range 256 {
		name := string([]byte{byte(b)})
		if inside(b) {
			stands(t, []string{"aa", name}, []int{1, b})
		} else {
			noStat(t, []string{"aa", name}, []int{1, b})
			unread(t, "aa 1\n"+name+" 1\n", name+" 1\n")
		}
	}
	stands(t, []string{strings.Repeat("a", 40), strings.Repeat("a", 39)}, []int{1, 2})
	noStat(t, []string{strings.Repeat("a", 41)}, []int{1})
}

func TestStatTwice(t *testing.T) {
	for _, n := range []int{2, 3, 5, 20, 99, 100} {
		for i := range n {
			for k := range i {
				if n > 20 && k > 0 && k < i-1 {
					continue // at the ends, and side by side, is enough
				}
				names, values := count(n)
				names[i] = names[k]
				noStat(t, names, values)
				unread(t, lines(names, values))
				values[i] = values[k]
				noStat(t, names, values)
				unread(t, lines(names, values))
			}
		}
	}
	noStat(t, []string{"a", "a", "a"}, []int{1, 2, 3})
	stands(t, []string{"a", "aa", "aaa", "_a", "a_", "a0", "0a"}, []int{1, 1, 1, 1, 1, 1, 1})
}

func TestParse(t *testing.T) {
	parses(t, "", nil, nil, api.OK)
	parses(t, "a 1\n", []string{"a"}, []int{1}, api.OK)
	parses(t, "b 2\na -3\n0 0\n", []string{"b", "a", "0"}, []int{2, -3, 0}, api.OK)
	parses(t, "n 9223372036854775807\nm -9223372036854775808\n", []string{"n", "m"}, []int{math.MaxInt, math.MinInt}, api.OK)
	unread(t,
		"a", "a ", "a 1", "a 1\nb 2", "a 1\nb", "a 1\n ", // no last 0a
		"\n", "\n\n", "\na 1\n", "a 1\n\n", "a 1\n\nb 2\n", // an empty line
		"a  1\n", "  1\n", " 1\n", " a 1\n", "a1\n", "a\n", "1\n", "a 1 \n", "a 1  \n", "a \n", " \n", "a 1 2\n", "a b 1\n", "a b\n",
		"a 01\n", "a 00\n", "a 007\n", "a -01\n", "a -0\n", "a -00\n", "a +1\n", "a +0\n", "a -\n", "a +\n", "a --1\n", "a -+1\n", "a 1-\n",
		"a\t1\n", "a\v1\n", "a\u00a01\n", "a:1\n", "a=1\n", "a 1\r\n", "a 1\r", "a 1\x00\n", "a 1\x00", "a 1;b 2\n", "a 1.0\n", "a 1e3\n", "a 0x1\n", "a 1_0\n",
		"A 1\n", "a. 1\n", "-a 1\n", "\u00e4 1\n", "\xff 1\n", "a \xff\n", "a \u0661\n",
		"a 1\na 2\n", "a 1\na 1\n", "a 1\nb 2\na 3\n", "b 1\na 2\na 3\n",
	)
	stands(t, []string{strings.Repeat("z", 40)}, []int{5})
	unread(t, strings.Repeat("z", 41)+" 5\n")
}

func TestParseBeyondWords(t *testing.T) {
	unread(t, "a 9223372036854775808\n", "a -9223372036854775809\n", "a 9223372036854775809\n", "a 18446744073709551615\n", "a -18446744073709551616\n")
	for by := int64(-40); by <= 40; by++ {
		for _, n := range []int64{-most, -1000, -2, -1, 0, 1, 2, 10, 1000, most} {
			for _, shift := range []uint{62, 63, 64, 65, 128, 1000} {
				parsesTold(t, "a "+digits(by, shift, n)+"\n", "b 0\na "+digits(by, shift, n)+"\nc 0\n")
			}
		}
	}
	for n := 19; n < 200; n++ {
		unread(t, "a "+strings.Repeat("9", n)+"\n", "a -"+strings.Repeat("9", n)+"\n", "a "+strings.Repeat("0", n)+"1\n", "a 1"+strings.Repeat("0", n)+"\n")
	}
}

// Texts of which one line is wrong are read in no part.
func TestParseWrongLine(t *testing.T) {
	for _, n := range []int{1, 2, 7, 100} {
		names, values := count(n)
		for at := range n {
			ahead, behind := lines(names[:at], values[:at]), lines(names[at+1:], values[at+1:])
			for _, line := range []string{"\n", "q\n", "q \n", " 1\n", "q  1\n", "q 1 \n", "q 01\n", "q -0\n", "q +1\n", "Q 1\n", "q 1\r\n", "q 9223372036854775808\n", "q x\n", "q 1\x00\n"} {
				unread(t, ahead+line+behind)
			}
			parsesTold(t, ahead+"q 1\n"+behind)
		}
	}
}

func TestParseBeside(t *testing.T) {
	for _, text := range []string{
		"", "a 1\n", "a 0\n", "a -1\n", "ab 10\nb_ -20\n", "a 1\nb 1\n", "n 9223372036854775807\n", "n -9223372036854775808\n",
		strings.Repeat("a", 40) + " 1\n",
	} {
		parsesTold(t, text)
		parsesTold(t, beside(text)...)
	}
	some := lines(count(12))
	for at := range len(some) {
		parsesTold(t, some[:at], some[at:], some[:at]+some[at+1:], some[:at]+"\n"+some[at:], some[:at]+"0"+some[at:])
	}
	for _, n := range []int{98, 99, 100} {
		all := lines(count(n))
		parsesTold(t, all, all+"\n", all+"zz 1\n", all+"zz 1", "zz 1\n"+all, all+"zz 1\nz_ 1\n")
	}
}

func TestParseShort(t *testing.T) {
	parsesTold(t, spelt([]string{"a", "b", "0", "1", "-", " ", "\n"}, 6)...)
	parsesTold(t, spelt([]string{"a 1\n", "b -2\n", "c 0\n", "a", " ", "7", "\n"}, 4)...)
}

// Each stat has one text: those that differ have two.
func TestOneText(t *testing.T) {
	type stat struct {
		names  [2]string
		values [2]int
		n      int
	}
	texts := map[string]stat{}
	add := func(x stat) {
		s, e := Stat(x.names[:x.n], x.values[:x.n])
		if e != api.OK {
			t.Fatal(x, e)
		}
		if was, ok := texts[s]; ok && was != x {
			t.Fatalf("%q is of %v, and of %v", s, was, x)
		}
		texts[s] = x
		parses(t, s, x.names[:x.n], x.values[:x.n], api.OK)
	}
	names := []string{"a", "b", "aa", "a1", "1", "1a", "11", "_", "a_1"}
	add(stat{})
	for _, a := range names {
		for _, v := range edges {
			add(stat{[2]string{a}, [2]int{v}, 1})
			for _, b := range names {
				for _, w := range []int{0, 1, -1, 11, v} {
					if a != b {
						add(stat{[2]string{a, b}, [2]int{v, w}, 2})
					}
				}
			}
		}
	}
}

func TestArguments(t *testing.T) {
	for _, n := range []int{0, 1, 7, 100, 101} {
		names, values := count(n + 3)
		wasNames, wasValues := slices.Clone(names), slices.Clone(values)
		Stat(names[:n], values[:n])
		Stat(names[:n], values)
		Stat(names, values[:n])
		if !slices.Equal(names, wasNames) || !slices.Equal(values, wasValues) {
			t.Fatalf("of %d: %q, %v now", n, names, values)
		}
	}
	names, values := []string{"a", "a", "B"}, []int{1, 2, 3}
	Stat(names, values)
	if !slices.Equal(names, []string{"a", "a", "B"}) || !slices.Equal(values, []int{1, 2, 3}) {
		t.Error(names, values)
	}
}

// What is answered is the caller's own: changing it changes no other answer, and a text once told stays.
func TestAnswersApart(t *testing.T) {
	names, values := count(20)
	all := lines(names, values)
	for range 3 {
		ownNames, ownValues, e := Parse(all)
		if e != api.OK {
			t.Fatal(e)
		}
		s, _ := Stat(ownNames, ownValues)
		for i := range ownNames {
			ownNames[i], ownValues[i] = "x", -1
		}
		ownNames, ownValues = append(ownNames, "y"), append(ownValues, 1)
		clear(ownNames)
		clear(ownValues)
		if s != all {
			t.Fatalf("%q", s)
		}
		parses(t, all, names, values, api.OK)
	}
	bytes := []byte(all)
	ownNames, _, _ := Parse(string(bytes))
	clear(bytes)
	if !slices.Equal(ownNames, names) {
		t.Errorf("%q", ownNames)
	}
}

// One call knows nothing of another: what is refused, or taken, ahead of it changes no answer.
func TestAgain(t *testing.T) {
	for range 3 {
		reads(t, "memory.max", "4K", 2, 4096, api.OK)
		reads(t, "memory.high", "4K", -1, 0, api.ErrNone)
		reads(t, "memory.max", "4k", -1, 0, api.ErrForm)
		noStat(t, []string{"a", "a"}, []int{1, 2})
		stands(t, []string{"a", "b"}, []int{1, 2})
		unread(t, "a 1\na 2\n")
		parses(t, "b 5\n", []string{"b"}, []int{5}, api.OK)
	}
}

func TestLongTexts(t *testing.T) {
	const long = 1 << 18
	for _, letter := range []string{"0", "9", "K", "max", "\n", " ", "-", "a", "\xff", "a 1\n", "\x00"} {
		text := strings.Repeat(letter, long)
		refused(t, text, text+"K", "1"+text, "max"+text)
		reads(t, text, text, -1, 0, api.ErrNone)
		unread(t, text, "a "+text, "a 1"+text+"\n", text+" 1\n", "b 2\n"+text)
		noStat(t, []string{text, text}, []int{1, 2})
		if Word(text) {
			t.Errorf("Word of many %q", letter)
		}
	}
	noStat(t, slices.Repeat([]string{"a"}, long), make([]int, long))
	noStat(t, make([]string, long), make([]int, long))
	noStat(t, make([]string, long), nil)
	noStat(t, nil, make([]int, long))
	names, values := count(long / 64)
	noStat(t, names, values)
	unread(t, strings.Repeat("a 1\n", long))
}
