// Package bits is layer 1: see shared/doc/01-bits.md.
package bits

import (
	"math/bits"
	"slices"

	"sortilege/api"
)

const wordSize = 64

// Set of small numbers.
//
// The bits of the last word beyond size are always zero, so that words can be
// counted and compared without cutting them first.
type Set struct {
	size  int
	words []uint64
}

// New: an empty one.
func New(size int) (*Set, error) {
	if size < 0 || size > api.MaxItems {
		return nil, api.ErrArg
	}
	return &Set{size: size, words: make([]uint64, (size+wordSize-1)/wordSize)}, nil
}

// Of: of some.
func Of(size int, l []int) (*Set, error) {
	s, err := New(size)
	if err != nil {
		return nil, err
	}
	for _, i := range l {
		if !s.fits(i) {
			return nil, api.ErrArg
		}
		s.Add(i)
	}
	return s, nil
}

// Add: it has it.
func (s *Set) Add(i int) bool {
	if !s.fits(i) || s.Has(i) {
		return false
	}
	s.words[i/wordSize] |= bit(i)
	return true
}

// Del: it hasn't.
func (s *Set) Del(i int) bool {
	if !s.Has(i) {
		return false
	}
	s.words[i/wordSize] &^= bit(i)
	return true
}

// Has: has it?
func (s *Set) Has(i int) bool {
	return s.fits(i) && s.words[i/wordSize]&bit(i) != 0
}

// Size: how many it may have.
func (s *Set) Size() int {
	if s == nil {
		return 0
	}
	return s.size
}

// Count: how many it has.
func (s *Set) Count() int {
	if s == nil {
		return 0
	}
	n := 0
	for _, w := range s.words {
		n += bits.OnesCount64(w)
	}
	return n
}

// Items: these.
func (s *Set) Items() []int {
	l := make([]int, 0, s.Count())
	for i, ok := s.Next(0); ok; i, ok = s.Next(i + 1) {
		l = append(l, i)
	}
	return l
}

// Next: the least one from one on.
func (s *Set) Next(from int) (int, bool) {
	from = max(from, 0)
	if !s.fits(from) {
		return 0, false
	}
	at := from / wordSize
	// bit(from)-1 is what lies below from in its word.
	rest := s.words[at] &^ (bit(from) - 1)
	for rest == 0 {
		at++
		if at == len(s.words) {
			return 0, false
		}
		rest = s.words[at]
	}
	return at*wordSize + bits.TrailingZeros64(rest), true
}

// Join: another one's too.
func (s *Set) Join(t *Set) bool {
	return s.change(t, func(own, other uint64) uint64 { return own | other })
}

// Minus: none of another one's.
func (s *Set) Minus(t *Set) bool {
	return s.change(t, func(own, other uint64) uint64 { return own &^ other })
}

// Meet: what both have.
func (s *Set) Meet(t *Set) bool {
	return s.change(t, func(own, other uint64) uint64 { return own & other })
}

// Same: are they?
func (s *Set) Same(t *Set) bool {
	if s == nil || t == nil {
		return s == nil && t == nil
	}
	return s.size == t.size && slices.Equal(s.words, t.words)
}

// Copy: another one.
func (s *Set) Copy() *Set {
	if s == nil {
		return nil
	}
	return &Set{size: s.size, words: slices.Clone(s.words)}
}

// fits: is i a number that the set may have?
func (s *Set) fits(i int) bool {
	return i >= 0 && i < s.Size()
}

// bit of a number within its word.
func bit(i int) uint64 {
	return 1 << (i % wordSize)
}

// change puts, for each word, what become makes of it and of t's word in its
// place: did any word change?
func (s *Set) change(t *Set, become func(own, other uint64) uint64) bool {
	if s == nil {
		return false
	}
	changed := false
	for at, own := range s.words {
		// t may be greater: what it has beyond s's size must not come in.
		w := become(own, t.word(at)&s.room(at))
		changed = changed || w != own
		s.words[at] = w
	}
	return changed
}

// word of a set at a place: without a bit where the set has no such word.
func (s *Set) word(at int) uint64 {
	if s == nil || at >= len(s.words) {
		return 0
	}
	return s.words[at]
}

// room: the bits of the word at a place that lie within the set's size.
func (s *Set) room(at int) uint64 {
	if at < s.size/wordSize {
		return ^uint64(0)
	}
	return bit(s.size) - 1
}
