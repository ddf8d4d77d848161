// Package num is layer 1: see shared/doc/01-num.md.
package num

import (
	"math"

	"blazon/api"
)

// The short form: seven bits a digit, so that 64 bits need ten digits, the last of which has one bit left.
const (
	digitBits = 7
	more      = 1 << digitBits
	maxDigits = 10
	maxTenth  = 1
)

func Put(b []byte, n uint64) []byte {
	out := grown(b, maxDigits)
	for n >= more {
		out = append(out, byte(n)|more)
		n >>= digitBits
	}
	return append(out, byte(n))
}

func Get(b []byte) (n uint64, used int, e api.Errno) {
	for i, c := range b {
		digit := uint64(c & (more - 1))
		// Told here, and not at the last digit: no byte that follows can mend it.
		if i == maxDigits || i == maxDigits-1 && digit > maxTenth {
			return 0, 0, api.ErrForm
		}
		n |= digit << (digitBits * i)
		if c >= more {
			continue
		}
		if digit == 0 && i > 0 {
			return 0, 0, api.ErrForm
		}
		return n, i + 1, api.OK
	}
	return 0, 0, api.ErrShort
}

func Put4(b []byte, n uint32) []byte {
	return append(grown(b, 4), byte(n), byte(n>>8), byte(n>>16), byte(n>>24))
}

func Get4(b []byte) (uint32, api.Errno) {
	if len(b) < 4 {
		return 0, api.ErrShort
	}
	return uint32(b[0]) | uint32(b[1])<<8 | uint32(b[2])<<16 | uint32(b[3])<<24, api.OK
}

func Add(a, b int64) (int64, api.Errno) {
	if b > 0 && a > math.MaxInt64-b || b < 0 && a < math.MinInt64-b {
		return 0, api.ErrOver
	}
	return a + b, api.OK
}

func Mul(a, b int64) (int64, api.Errno) {
	if !productFits(a, b) {
		return 0, api.ErrOver
	}
	return a * b, api.OK
}

func Sum(l []int64) (int64, api.Errno) {
	total := int64(0)
	for _, n := range l {
		next, e := Add(total, n)
		if e != api.OK {
			return 0, e
		}
		total = next
	}
	return total, api.OK
}

// grown copies b with room for n bytes more: the memory behind b's length is the caller's.
func grown(b []byte, n int) []byte {
	out := make([]byte, len(b), len(b)+n)
	copy(out, b)
	return out
}

// productFits divides the bound by one side, since the product itself would go round. Division cuts
// towards 0, which is just the last whole number that still fits, whichever signs there are.
func productFits(a, b int64) bool {
	switch {
	case a > 0 && b > 0:
		return a <= math.MaxInt64/b
	case a > 0 && b < 0:
		return b >= math.MinInt64/a
	case a < 0 && b > 0:
		return a >= math.MinInt64/b
	case a < 0 && b < 0:
		return b >= math.MaxInt64/a
	}
	return true
}
