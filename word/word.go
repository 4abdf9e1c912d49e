// Package word is layer 1: words of 32 bits, and pairs of them; see shared/doc/01-word.md.
package word

import (
	"math/bits"

	"tamis/api"
)

const (
	wordBits = 32
	topBit   = 63 // of a pair of words
)

// Alu tells what comes of two words; false, if b is 0 in a division, or if op is none.
func Alu(op int, a, b uint32) (uint32, bool) {
	switch op {
	case api.AAdd:
		return a + b, true
	case api.ASub:
		return a - b, true
	case api.AMul:
		return a * b, true
	case api.ADiv:
		return divide(a, b)
	case api.AOr:
		return a | b, true
	case api.AAnd:
		return a & b, true
	case api.ALsh:
		return a << (b % wordBits), true
	case api.ARsh:
		return a >> (b % wordBits), true
	case api.ANeg:
		return -a, true
	case api.AXor:
		return a ^ b, true
	}
	return 0, false
}

func divide(a, b uint32) (uint32, bool) {
	if b == 0 {
		return 0, false
	}
	return a / b, true
}

// Ask tells whether op is so of two words; it is false of an op that is none.
func Ask(op int, a, b uint32) bool {
	switch op {
	case api.CEq:
		return a == b
	case api.CGt:
		return a > b
	case api.CGe:
		return a >= b
	case api.CSet:
		return a&b != 0
	}
	return false
}

// Lo is the lower word of a pair.
func Lo(n uint64) uint32 { return uint32(n) }

// Hi is the higher word of a pair.
func Hi(n uint64) uint32 { return uint32(n >> wordBits) }

// Join is the pair of two words.
func Join(lo, hi uint32) uint64 { return uint64(hi)<<wordBits | uint64(lo) }

// Bit tells whether bit i is 1; there are the bits 0 to 63 alone.
func Bit(n uint64, i int) bool {
	// A move by a negative number would panic.
	if i < 0 || i > topBit {
		return false
	}
	return n>>i&1 == 1
}

// Ones is how many bits are 1.
func Ones(n uint64) int { return bits.OnesCount64(n) }

// Span is the bits from lo to hi, as far as there are such bits.
func Span(lo, hi int) uint64 {
	lo, hi = max(lo, 0), min(hi, topBit)
	// Asked behind the cut, this also refuses spans that lie below 0 or above 63 as a whole.
	if lo > hi {
		return 0
	}
	all := ^uint64(0)
	return all << lo & (all >> (topBit - hi))
}
