package rational

import (
	"cmp"
	"math/bits"
)

// wide is an unsigned number of 128 bits in two words.
type wide struct{ hi, lo uint64 }

// product returns a * b, which always fits.
func product(a, b uint64) wide {
	hi, lo := bits.Mul64(a, b)
	return wide{hi, lo}
}

func (a wide) plus(b wide) wide {
	lo, carry := bits.Add64(a.lo, b.lo, 0)
	hi, _ := bits.Add64(a.hi, b.hi, carry)
	return wide{hi, lo}
}

func (a wide) minus(b wide) wide {
	lo, borrow := bits.Sub64(a.lo, b.lo, 0)
	hi, _ := bits.Sub64(a.hi, b.hi, borrow)
	return wide{hi, lo}
}

func (a wide) compare(b wide) int {
	if a.hi != b.hi {
		return cmp.Compare(a.hi, b.hi)
	}
	return cmp.Compare(a.lo, b.lo)
}

// over returns the quotient of a and d, rounded down; d is not 0.
func (a wide) over(d uint64) wide {
	// The high word is divided first because bits.Div64 panics if the
	// quotient needs more than one word.
	lo, _ := bits.Div64(a.hi%d, a.lo, d)
	return wide{a.hi / d, lo}
}

// modulo returns the remainder of a and d; d is not 0.
func (a wide) modulo(d uint64) uint64 {
	return bits.Rem64(a.hi, a.lo, d)
}

// signed is a number of 128 bits with a sign; 0 is not negative.
type signed struct {
	negative bool
	size     wide
}

func multiply(a, b int) signed {
	size := product(magnitude(a), magnitude(b))
	return signed{(a < 0) != (b < 0) && size != wide{}, size}
}

// plus returns a + b, where both are below 2^127 in size.
func (a signed) plus(b signed) signed {
	if a.negative == b.negative {
		return signed{a.negative, a.size.plus(b.size)}
	}
	switch a.size.compare(b.size) {
	case 1:
		return signed{a.negative, a.size.minus(b.size)}
	case -1:
		return signed{b.negative, b.size.minus(a.size)}
	}
	return signed{}
}

func (a signed) compare(b signed) int {
	switch {
	case a.negative && b.negative:
		return b.size.compare(a.size)
	case a.negative:
		return -1
	case b.negative:
		return 1
	}
	return a.size.compare(b.size)
}

// magnitude returns the absolute value of n, also of the least int.
func magnitude(n int) uint64 {
	if n < 0 {
		return -uint64(n)
	}
	return uint64(n)
}

// divisor returns the greatest common divisor; that of 0 and a number is the number.
func divisor(a, b uint64) uint64 {
	for b != 0 {
		a, b = b, a%b
	}
	return a
}
