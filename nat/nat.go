// Package nat is layer 1: numbers as limbs. See shared/doc/01-nat.md.
package nat

import (
	"cmp"
	"math/bits"

	"outrigger/api"
)

const (
	limbBits = 64
	maxShift = 65536
)

// trim cuts the noughts at the top away. The third index leaves no spare
// room, so that nothing can be appended into memory that somebody else has.
func trim(a []uint64) []uint64 {
	n := len(a)
	for n > 0 && a[n-1] == 0 {
		n--
	}
	if n == 0 {
		return nil
	}
	return a[:n:n]
}

// Plain: a number, without noughts at the top.
func Plain(a []uint64) []uint64 {
	return append([]uint64(nil), trim(a)...)
}

// Cmp: -1, 0 or 1.
func Cmp(a, b []uint64) int {
	a, b = trim(a), trim(b)
	if len(a) != len(b) {
		return cmp.Compare(len(a), len(b))
	}
	for i := len(a) - 1; i >= 0; i-- {
		if a[i] != b[i] {
			return cmp.Compare(a[i], b[i])
		}
	}
	return 0
}

// Len: how many bits a number has.
func Len(a []uint64) int {
	a = trim(a)
	if len(a) == 0 {
		return 0
	}
	top := len(a) - 1
	return top*limbBits + bits.Len64(a[top])
}

// Add: a sum.
func Add(a, b []uint64) []uint64 {
	long, short := trim(a), trim(b)
	if len(long) < len(short) {
		long, short = short, long
	}
	// A limb more, for what is carried out of the top. That makes new memory,
	// since trim left no room for it in the old.
	sum := append(long, 0)
	carry := addTo(sum, short)
	carryUp(sum[len(short):], carry)
	return trim(sum)
}

// addTo adds a to the lowest limbs of sum, and answers what is carried out of them.
func addTo(sum, a []uint64) uint64 {
	carry := uint64(0)
	for i, limb := range a {
		sum[i], carry = bits.Add64(sum[i], limb, carry)
	}
	return carry
}

// carryUp adds a carry, which sum has room for.
func carryUp(sum []uint64, carry uint64) {
	for i := 0; carry != 0 && i < len(sum); i++ {
		sum[i], carry = bits.Add64(sum[i], 0, carry)
	}
}

// Sub: a difference. Below.
func Sub(a, b []uint64) ([]uint64, error) {
	if Cmp(a, b) < 0 {
		return nil, api.Below
	}
	diff, less := Plain(a), trim(b)
	borrow := uint64(0)
	for i, limb := range less {
		diff[i], borrow = bits.Sub64(diff[i], limb, borrow)
	}
	for i := len(less); borrow != 0 && i < len(diff); i++ {
		diff[i], borrow = bits.Sub64(diff[i], 0, borrow)
	}
	return trim(diff), nil
}

// Mul: a product. Range.
func Mul(a, b []uint64) ([]uint64, error) {
	a, b = trim(a), trim(b)
	if len(a)+len(b) > api.MaxLimbs {
		return nil, api.Range
	}
	product := make([]uint64, len(a)+len(b))
	for i, limb := range a {
		product[i+len(b)] = addTimes(product[i:i+len(b)], b, limb)
	}
	return trim(product), nil
}

// addTimes adds a, so often as times says, to sum, which is as long, and
// answers what is carried out of it.
func addTimes(sum, a []uint64, times uint64) uint64 {
	carry := uint64(0)
	for i, limb := range a {
		high, low := bits.Mul64(limb, times)
		// The two carries can't carry high over: limb * times + sum[i] +
		// carry is at most 2^128 - 1.
		var one, two uint64
		low, one = bits.Add64(low, sum[i], 0)
		low, two = bits.Add64(low, carry, 0)
		sum[i], carry = low, high+one+two
	}
	return carry
}

// Shl: a number times a power of two. Range.
func Shl(a []uint64, n int) ([]uint64, error) {
	a = trim(a)
	if n < 0 || n > maxShift || len(a) > api.MaxLimbs {
		return nil, api.Range
	}
	limbs, rest := n/limbBits, uint(n%limbBits)
	up := make([]uint64, limbs+len(a)+1)
	carry := uint64(0)
	for i, limb := range a {
		up[limbs+i] = limb<<rest | carry
		// Of no rest this is a shift by a whole limb, which leaves nothing.
		carry = limb >> (limbBits - rest)
	}
	up[limbs+len(a)] = carry
	return trim(up), nil
}

// Shr: a number divided by a power of two.
func Shr(a []uint64, n int) []uint64 {
	a = trim(a)
	n = max(n, 0)
	limbs, rest := n/limbBits, uint(n%limbBits)
	if limbs >= len(a) {
		return nil
	}
	a = a[limbs:]
	down := make([]uint64, len(a))
	carry := uint64(0)
	for i := len(a) - 1; i >= 0; i-- {
		down[i] = a[i]>>rest | carry
		carry = a[i] << (limbBits - rest)
	}
	return trim(down)
}
