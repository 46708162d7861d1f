// Package bits is layer 1: small numbers as bits, and bits as numbers. See shared/doc/01-bits.md.
package bits

import (
	mathbits "math/bits"

	"mulligan/api"
)

// size is how many bits a set or a word has.
const size = 64

// Has tells whether a number is in a set.
func Has(set uint64, i int) bool {
	return isMember(i) && set>>i&1 == 1
}

// With is a set with a number.
func With(set uint64, i int) uint64 {
	if !isMember(i) {
		return set
	}
	return set | 1<<i
}

// Without is a set without a number.
func Without(set uint64, i int) uint64 {
	if !isMember(i) {
		return set
	}
	return set &^ (1 << i)
}

// Count is how many are in a set.
func Count(set uint64) int {
	return mathbits.OnesCount64(set)
}

// Least is the least one of a set.
func Least(set uint64) int {
	if set == 0 {
		return -1
	}
	return mathbits.TrailingZeros64(set)
}

// Span is the set of all numbers from one on, below another one.
func Span(from, to int) uint64 {
	return below(to) &^ below(from)
}

// Part is a part's worth.
func Part(x uint64, at, width int) uint64 {
	if !isPart(at, width) {
		return 0
	}
	return x >> at & below(width)
}

// Put lays a part into bits.
func Put(x uint64, at, width int, part uint64) (uint64, error) {
	if !isPart(at, width) {
		return 0, api.ErrRange
	}
	if part > below(width) {
		return 0, api.ErrForm
	}
	return x&^(below(width)<<at) | part<<at, nil
}

// Narrow is the number of a width that has a number's lowest bits.
func Narrow(n, width int) int {
	if !isWidth(width) {
		return n
	}
	// A shift back to the right spreads the sign, which the shift to the left laid into the highest bit.
	spare := size - width
	return int(int64(n) << spare >> spare)
}

// Fits tells whether a number is one of a width.
func Fits(n, width int) bool {
	return isWidth(width) && Narrow(n, width) == n
}

// isMember tells whether a number may be in a set; a shift by less than 0 would panic.
func isMember(i int) bool {
	return i >= 0 && i < size
}

// isWidth tells whether a part or a number may have that width.
func isWidth(width int) bool {
	return width >= 1 && width <= size
}

// isPart tells whether there is such a part. The place is held against what the width leaves, for a sum might wrap around.
func isPart(at, width int) bool {
	return isWidth(width) && at >= 0 && at <= size-width
}

// below is the set of all numbers from 0 to 63 that are below n. A shift by 64 leaves 0, and 1 less are all bits.
func below(n int) uint64 {
	return uint64(1)<<min(max(n, 0), size) - 1
}
