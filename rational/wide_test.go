package rational

import (
	"math"
	"math/big"
	"testing"
)

func (a wide) big() *big.Int {
	hi := new(big.Int).SetUint64(a.hi)
	return hi.Lsh(hi, 64).Add(hi, new(big.Int).SetUint64(a.lo))
}

func (a signed) big() *big.Int {
	if a.negative {
		return new(big.Int).Neg(a.size.big())
	}
	return a.size.big()
}

func words() []uint64 {
	return []uint64{0, 1, 2, 3, 1<<32 - 1, 1 << 32, 1<<60 - 1, 1 << 60, 1<<60 + 1, 1<<63 - 1, 1 << 63, math.MaxUint64 - 1, math.MaxUint64}
}

func TestWide(t *testing.T) {
	var all []wide
	for _, hi := range words() {
		for _, lo := range words() {
			all = append(all, wide{hi, lo})
			if product(hi, lo).big().Cmp(new(big.Int).Mul(wide{0, hi}.big(), wide{0, lo}.big())) != 0 {
				t.Error("product", hi, lo)
			}
		}
	}
	for _, a := range all {
		for _, b := range all {
			if a.compare(b) != a.big().Cmp(b.big()) {
				t.Error("compare", a, b)
			}
			if sum := new(big.Int).Add(a.big(), b.big()); sum.BitLen() <= 128 && a.plus(b).big().Cmp(sum) != 0 {
				t.Error("plus", a, b)
			}
			if rest := new(big.Int).Sub(a.big(), b.big()); rest.Sign() >= 0 && a.minus(b).big().Cmp(rest) != 0 {
				t.Error("minus", a, b)
			}
		}
		for _, d := range words()[1:] {
			q, r := new(big.Int).QuoRem(a.big(), wide{0, d}.big(), new(big.Int))
			if a.over(d).big().Cmp(q) != 0 || a.modulo(d) != r.Uint64() {
				t.Error("over or modulo", a, d)
			}
		}
	}
}

func TestSigned(t *testing.T) {
	ints := []int{0, 1, -1, 2, -3, 1 << 32, -1 << 32, Max, -Max, Max - 1, 1 - Max}
	var all []signed
	for _, a := range ints {
		for _, b := range ints {
			s := multiply(a, b)
			all = append(all, s)
			if s.big().Cmp(new(big.Int).Mul(big.NewInt(int64(a)), big.NewInt(int64(b)))) != 0 || s.negative && s.size == (wide{}) {
				t.Error("multiply", a, b, s)
			}
		}
	}
	for _, a := range all {
		for _, b := range all {
			if a.compare(b) != a.big().Cmp(b.big()) {
				t.Error("compare", a, b)
			}
			sum := a.plus(b)
			if sum.big().Cmp(new(big.Int).Add(a.big(), b.big())) != 0 || sum.negative && sum.size == (wide{}) {
				t.Error("plus", a, b, sum)
			}
		}
	}
}
