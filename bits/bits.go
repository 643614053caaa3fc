// Package bits is layer 1: see shared/doc/01-bits.md.
package bits

import (
	wordbits "math/bits"

	"millpond/api"
)

const (
	wordSize      = 64      // bits of a word
	maxBits       = 1 << 16 // bits of a Map
	maxWidth      = 62      // of a field: each value is an int that is not below 0
	maxDigitWidth = 16
)

// Map is bits. Those of the last word beyond n stay off, so that Count need not leave them out.
type Map struct {
	n     int
	words []uint64
}

// New is bits that are off.
func New(n int) *Map {
	n = min(max(n, 0), maxBits)
	return &Map{n: n, words: make([]uint64, (n+wordSize-1)/wordSize)}
}

// Len is how many.
func (m *Map) Len() int { return m.n }

// Set sets a bit, and tells whether it was another one ahead.
func (m *Map) Set(i int, on bool) bool {
	if !m.has(i) || m.Get(i) == on {
		return false
	}
	m.words[i/wordSize] ^= uint64(1) << uint(i%wordSize)
	return true
}

// Get tells a bit.
func (m *Map) Get(i int) bool {
	return m.has(i) && m.words[i/wordSize]>>uint(i%wordSize)&1 == 1
}

// Count is how many are on.
func (m *Map) Count() int {
	count := 0
	for k := range len(m.words) {
		count += wordbits.OnesCount64(m.words[k])
	}
	return count
}

// Next is the first bit that is so.
func (m *Map) Next(from int, on bool) int {
	from = max(from, 0)
	if !m.has(from) {
		return -1
	}
	first, skip := from/wordSize, uint(from%wordSize)
	for k := range len(m.words) - first {
		found := m.like(first+k, on) >> skip << skip
		skip = 0
		if found != 0 {
			return m.known((first+k)*wordSize + wordbits.TrailingZeros64(found))
		}
	}
	return -1
}

// has tells whether there is a bit i.
func (m *Map) has(i int) bool { return i >= 0 && i < m.n }

// like is a word with a one for each bit that is so.
func (m *Map) like(k int, on bool) uint64 {
	if on {
		return m.words[k]
	}
	return ^m.words[k]
}

// known is i, or -1 where there is no such bit: the last word has places beyond n, which look off.
func (m *Map) known(i int) int {
	if !m.has(i) {
		return -1
	}
	return i
}

// Pack packs fields into a word.
func Pack(widths []int, values []int) (uint64, api.Errno) {
	if len(widths) != len(values) {
		return 0, api.ErrArg
	}
	if _, ok := span(widths); !ok {
		return 0, api.ErrArg
	}
	x, at := uint64(0), uint(0)
	for i, w := range widths {
		v := values[i]
		if v < 0 || uint64(v) > ones(w) {
			return 0, api.ErrArg
		}
		x |= uint64(v) << at
		at += uint(w)
	}
	return x, api.OK
}

// Unpack is a word's fields.
func Unpack(widths []int, x uint64) ([]int, api.Errno) {
	all, ok := span(widths)
	if !ok || x>>uint(all) != 0 {
		return nil, api.ErrArg
	}
	values := make([]int, len(widths))
	for i, w := range widths {
		values[i] = int(x & ones(w))
		x >>= uint(w)
	}
	return values, api.OK
}

// span is how many bits fields of these widths take, and whether they may be. It ends at the first one too many, so that no sum goes round.
func span(widths []int) (int, bool) {
	all := 0
	for _, w := range widths {
		if w < 0 || w > maxWidth || all+w > wordSize {
			return 0, false
		}
		all += w
	}
	return all, true
}

// ones is the greatest value of a width.
func ones(width int) uint64 { return uint64(1)<<uint(width) - 1 }

// Digits is a word's digits.
func Digits(x uint64, width int) []int {
	if !digitWidth(width) {
		return nil
	}
	digits := make([]int, (wordSize+width-1)/width)
	for k := range len(digits) {
		digits[len(digits)-1-k] = int(x & ones(width))
		x >>= uint(width)
	}
	return digits
}

// Join is what digits make.
func Join(l []int, width int) uint64 {
	if !digitWidth(width) {
		return 0
	}
	x := uint64(0)
	for _, d := range l {
		x = x<<uint(width) | uint64(d)&ones(width)
	}
	return x
}

// digitWidth tells whether digits may be that wide.
func digitWidth(width int) bool { return width >= 1 && width <= maxDigitWidth }
