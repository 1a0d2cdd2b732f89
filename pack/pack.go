// Package pack is layer 1: see shared/doc/01-pack.md.
package pack

import (
	"math/bits"

	"tarry/api"
)

const (
	bound   = 1 << 60 // the greatest number, and, below 0, the smallest one
	base    = 128
	longest = 9 // twice bound, the greatest that is written, has so many digits
)

// Add is a sum of numbers, if it may be.
func Add(a, b int) (int, api.Errno) {
	if !mayBe(a) || !mayBe(b) {
		return 0, api.ErrArg
	}
	// Neither is above 2^60, so the sum can't wrap round.
	if !mayBe(a + b) {
		return 0, api.ErrOver
	}
	return a + b, api.OK
}

// Times is a product of numbers, if it may be.
func Times(a, b int) (int, api.Errno) {
	if !mayBe(a) || !mayBe(b) {
		return 0, api.ErrArg
	}
	// The product itself may wrap round, so it is judged in 128 bits first.
	high, low := bits.Mul64(size(a), size(b))
	if high != 0 || low > bound {
		return 0, api.ErrOver
	}
	return a * b, api.OK
}

// Number is a number's bytes.
func Number(n int) (string, api.Errno) {
	if !mayBe(n) {
		return "", api.ErrArg
	}
	return string(appendNumber(nil, n)), api.OK
}

// ReadNumber is the number whose bytes a text begins with, and the text behind it.
func ReadNumber(s string) (int, string, api.Errno) {
	last, err := lastDigit(s)
	if err != api.OK {
		return 0, "", err
	}
	// A last digit of 0 could be left out: only 0 itself is written so.
	if last > 0 && s[last] == 0 {
		return 0, "", api.ErrSyntax
	}
	n := unfold(value(s[:last+1]))
	if !mayBe(n) {
		return 0, "", api.ErrSyntax
	}
	return n, s[last+1:], api.OK
}

func mayBe(n int) bool {
	return -bound <= n && n <= bound
}

func size(n int) uint64 {
	if n < 0 {
		return uint64(-n)
	}
	return uint64(n)
}

// fold lays the numbers below 0 between the others, so that small ones of either sign have few digits.
func fold(n int) uint64 {
	if n < 0 {
		return 2*size(n) - 1
	}
	return 2 * size(n)
}

func unfold(u uint64) int {
	if u%2 == 1 {
		return -int(u/2) - 1
	}
	return int(u / 2)
}

// appendNumber asks nothing of n: who calls it knows that it may be.
func appendNumber(out []byte, n int) []byte {
	u := fold(n)
	for u >= base {
		out = append(out, byte(u%base)+base)
		u /= base
	}
	return append(out, byte(u))
}

// lastDigit is the place of a number's last digit, in the text that begins with it.
func lastDigit(s string) (int, api.Errno) {
	for i := range min(len(s), longest) {
		if s[i] < base {
			return i, api.OK
		}
	}
	if len(s) < longest {
		return 0, api.ErrShort
	}
	return 0, api.ErrLong
}

// value can't wrap round: nine digits are 63 bits.
func value(digits string) uint64 {
	var u uint64
	for i := len(digits) - 1; i >= 0; i-- {
		u = u*base + uint64(digits[i]%base)
	}
	return u
}
