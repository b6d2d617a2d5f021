// Package rational is layer 1: exact arithmetic with rational numbers whose
// numerators and denominators are bounded. See shared/doc/01-rational.md.
package rational

import (
	"strconv"
	"strings"

	"fairlink/api"
)

// Max is the greatest absolute value of a numerator, and of a denominator.
const Max = 1 << 60

// Rat is a rational number N / D in lowest terms with D > 0; the zero value counts as 0.
type Rat struct{ N, D int }

// Of returns n / d in lowest terms.
func Of(n, d int) (Rat, api.Errno) {
	if d == 0 {
		return Rat{}, api.ErrRange
	}
	g := divisor(magnitude(n), magnitude(d))
	top, bottom := wide{lo: magnitude(n) / g}, wide{lo: magnitude(d) / g}
	return bounded((n < 0) != (d < 0), top, bottom)
}

// Valid reports whether r is a number in lowest terms within the bounds, or the zero value.
func Valid(r Rat) bool {
	if r == (Rat{}) {
		return true
	}
	if r.D < 1 || r.D > Max || r.N < -Max || r.N > Max {
		return false
	}
	return divisor(magnitude(r.N), magnitude(r.D)) == 1
}

// Add returns a + b.
func Add(a, b Rat) (Rat, api.Errno) {
	if !Valid(a) || !Valid(b) {
		return Rat{}, api.ErrArg
	}
	a, b = settle(a), settle(b)
	shared := divisor(magnitude(a.D), magnitude(b.D))
	left := multiply(a.N, b.D/int(shared))
	right := multiply(b.N, a.D/int(shared))
	top := left.plus(right)
	// The numerator over the least common denominator can only be reduced by
	// a part of what the denominators share, so 128 bits are always enough.
	common := divisor(top.size.modulo(shared), shared)
	bottom := product(magnitude(a.D)/shared, magnitude(b.D)/common)
	return bounded(top.negative, top.size.over(common), bottom)
}

// Sub returns a - b.
func Sub(a, b Rat) (Rat, api.Errno) {
	// The bounds are symmetric: -b is valid exactly if b is.
	return Add(a, Rat{-b.N, b.D})
}

// Mul returns a * b.
func Mul(a, b Rat) (Rat, api.Errno) {
	if !Valid(a) || !Valid(b) {
		return Rat{}, api.ErrArg
	}
	a, b = settle(a), settle(b)
	g := divisor(magnitude(a.N), magnitude(b.D))
	h := divisor(magnitude(b.N), magnitude(a.D))
	top := product(magnitude(a.N)/g, magnitude(b.N)/h)
	bottom := product(magnitude(a.D)/h, magnitude(b.D)/g)
	return bounded((a.N < 0) != (b.N < 0), top, bottom)
}

// Div returns a / b.
func Div(a, b Rat) (Rat, api.Errno) {
	if !Valid(a) || !Valid(b) {
		return Rat{}, api.ErrArg
	}
	if b.N == 0 {
		return Rat{}, api.ErrRange
	}
	if b.N < 0 {
		return Mul(a, Rat{-b.D, -b.N})
	}
	return Mul(a, Rat{b.D, b.N})
}

// Cmp returns -1, 0, or 1 if a is less than, equal to, or greater than b; 0 if one of them is not valid.
func Cmp(a, b Rat) int {
	if !Valid(a) || !Valid(b) {
		return 0
	}
	a, b = settle(a), settle(b)
	return multiply(a.N, b.D).compare(multiply(b.N, a.D))
}

// Floor returns the greatest integer that is at most r; 0 if r is not valid.
func Floor(r Rat) int {
	if !Valid(r) {
		return 0
	}
	r = settle(r)
	whole := r.N / r.D
	if r.N%r.D < 0 {
		whole--
	}
	return whole
}

// Sum adds its arguments from left to right, beginning with 0.
func Sum(l ...Rat) (Rat, api.Errno) {
	total := Rat{0, 1}
	for _, r := range l {
		next, e := Add(total, r)
		if e != api.OK {
			return Rat{}, e
		}
		total = next
	}
	return total, api.OK
}

// Text returns the decimal text of r; the empty string if r is not valid.
func Text(r Rat) string {
	if !Valid(r) {
		return ""
	}
	r = settle(r)
	if r.D == 1 {
		return strconv.Itoa(r.N)
	}
	return strconv.Itoa(r.N) + "/" + strconv.Itoa(r.D)
}

// Parse returns the number whose text is s.
func Parse(s string) (Rat, api.Errno) {
	top, bottom, slash := strings.Cut(s, "/")
	if !slash {
		bottom = "1"
	}
	n, wrongTop := strconv.Atoi(top)
	d, wrongBottom := strconv.Atoi(bottom)
	if wrongTop != nil || wrongBottom != nil {
		return Rat{}, api.ErrForm
	}
	r := Rat{n, d}
	// Writing the number again refuses every spelling but the one text:
	// superfluous signs and zeros, "3/1", and numbers that are not valid,
	// whose text is empty while s is not.
	if Text(r) != s {
		return Rat{}, api.ErrForm
	}
	return r, api.OK
}

// settle turns the zero value into 0 / 1, so that a denominator is never 0.
func settle(r Rat) Rat {
	if r.D == 0 {
		return Rat{0, 1}
	}
	return r
}

// bounded returns top / bottom, which are in lowest terms, if the number is valid.
func bounded(negative bool, top, bottom wide) (Rat, api.Errno) {
	limit := wide{lo: Max}
	if top.compare(limit) > 0 || bottom.compare(limit) > 0 {
		return Rat{}, api.ErrBig
	}
	n := int(top.lo)
	if negative {
		n = -n
	}
	return Rat{n, int(bottom.lo)}, api.OK
}
