package rational_test

import (
	"math"
	"math/big"
	"slices"
	"strconv"
	"strings"
	"testing"

	"fairlink/api"
	. "fairlink/rational"
)

// The package math/big, which the program does not use, is the reference here.

type operation struct {
	name  string
	apply func(a, b Rat) (Rat, api.Errno)
	exact func(z, x, y *big.Rat) *big.Rat
}

func operations() []operation {
	return []operation{
		{"Add", Add, (*big.Rat).Add},
		{"Sub", Sub, (*big.Rat).Sub},
		{"Mul", Mul, (*big.Rat).Mul},
		{"Div", Div, (*big.Rat).Quo},
	}
}

// invalid returns values that are not valid, one for each way of being so.
func invalid() []Rat {
	return []Rat{
		{1, 0}, {-1, 0}, {Max, 0}, {1, -1}, {0, -1}, {-1, -2}, {3, math.MinInt},
		{2, 4}, {-6, 3}, {0, 2}, {0, Max}, {Max, Max}, {Max, 2}, {3, 3},
		{Max + 1, 1}, {-Max - 1, 1}, {math.MaxInt, 1}, {math.MinInt, 1}, {math.MinInt, 3},
		{1, Max + 1}, {-1, Max + 1}, {1, math.MaxInt}, {math.MinInt, math.MinInt}, {math.MinInt, 0},
	}
}

// edges returns valid values near the limits and near 0.
func edges() []Rat {
	return []Rat{
		{0, 0}, {0, 1}, {1, 1}, {-1, 1}, {1, 2}, {-1, 2}, {1, 3}, {-2, 3}, {7, 2}, {-7, 2},
		{Max, 1}, {-Max, 1}, {Max - 1, 1}, {1 - Max, 1}, {1, Max}, {-1, Max}, {1, Max - 1}, {-1, Max - 1},
		{Max - 1, Max}, {1 - Max, Max}, {Max, Max - 1}, {-Max, Max - 1}, {Max - 1, Max - 2}, {Max, 3}, {-Max, 3}, {3, Max}, {-3, Max},
		{1<<58 - 3, 3 << 58}, {1, 1 << 58}, {1 << 30, 3486784401}, {-3486784401, 1 << 30},
	}
}

// sequence is a deterministic source of numbers of all lengths.
type sequence uint64

func (s *sequence) word() uint64 {
	*s ^= *s << 13
	*s ^= *s >> 7
	*s ^= *s << 17
	return uint64(*s)
}

func (s *sequence) number(longest int) int {
	n := int(s.word() >> (64 - 1 - s.word()%uint64(longest)))
	if s.word()%2 == 0 {
		return -n
	}
	return n
}

// rat returns a valid number with about so many bits at most.
func (s *sequence) rat(longest int) Rat {
	for {
		if r, e := Of(s.number(longest), s.number(longest)); e == api.OK {
			return r
		}
	}
}

func exact(r Rat) *big.Rat {
	if r.D == 0 {
		return new(big.Rat)
	}
	return big.NewRat(int64(r.N), int64(r.D))
}

// narrow returns what a function has to return for the result x.
func narrow(x *big.Rat) (Rat, api.Errno) {
	limit := big.NewInt(Max)
	if x.Num().CmpAbs(limit) > 0 || x.Denom().Cmp(limit) > 0 {
		return Rat{}, api.ErrBig
	}
	return Rat{int(x.Num().Int64()), int(x.Denom().Int64())}, api.OK
}

func checkOperations(t *testing.T, a, b Rat) {
	t.Helper()
	for _, o := range operations() {
		got, e := o.apply(a, b)
		if o.name == "Div" && b.N == 0 {
			if (got != Rat{}) || e != api.ErrRange {
				t.Fatalf("Div(%v, %v) = %v, %d", a, b, got, e)
			}
			continue
		}
		want, wantE := narrow(o.exact(new(big.Rat), exact(a), exact(b)))
		if got != want || e != wantE {
			t.Fatalf("%s(%v, %v) = %v, %d, not %v, %d", o.name, a, b, got, e, want, wantE)
		}
	}
	if got, want := Cmp(a, b), exact(a).Cmp(exact(b)); got != want {
		t.Fatalf("Cmp(%v, %v) = %d, not %d", a, b, got, want)
	}
}

// P1.1

func TestOf(t *testing.T) {
	for _, c := range []struct {
		n, d int
		want Rat
		e    api.Errno
	}{
		{3, 4, Rat{3, 4}, api.OK},
		{6, -4, Rat{-3, 2}, api.OK},
		{-6, -4, Rat{3, 2}, api.OK},
		{-6, 3, Rat{-2, 1}, api.OK},
		{0, 7, Rat{0, 1}, api.OK},
		{0, -7, Rat{0, 1}, api.OK},
		{0, math.MinInt, Rat{0, 1}, api.OK},
		{0, 0, Rat{}, api.ErrRange},
		{5, 0, Rat{}, api.ErrRange},
		{math.MinInt, 0, Rat{}, api.ErrRange},
		{Max, 1, Rat{Max, 1}, api.OK},
		{Max, -1, Rat{-Max, 1}, api.OK},
		{1, -Max, Rat{-1, Max}, api.OK},
		{Max + 1, 1, Rat{}, api.ErrBig},
		{-Max - 1, 1, Rat{}, api.ErrBig},
		{1, Max + 1, Rat{}, api.ErrBig},
		{-1, -Max - 1, Rat{}, api.ErrBig},
		{2 * Max, 2, Rat{Max, 1}, api.OK},
		{2, -2 * Max, Rat{-1, Max}, api.OK},
		{math.MinInt, math.MinInt, Rat{1, 1}, api.OK},
		{math.MinInt, 8, Rat{-Max, 1}, api.OK},
		{math.MinInt, 4, Rat{}, api.ErrBig},
		{math.MinInt, -1, Rat{}, api.ErrBig},
		{8, math.MinInt, Rat{-1, Max}, api.OK},
		{1, math.MinInt, Rat{}, api.ErrBig},
		{math.MaxInt, math.MaxInt, Rat{1, 1}, api.OK},
		{math.MaxInt, math.MinInt, Rat{}, api.ErrBig},
	} {
		if got, e := Of(c.n, c.d); got != c.want || e != c.e {
			t.Errorf("Of(%d, %d) = %v, %d, not %v, %d", c.n, c.d, got, e, c.want, c.e)
		}
	}
}

func TestOfAgreesWithReference(t *testing.T) {
	s := sequence(1)
	for range 20000 {
		n, d := s.number(63), s.number(63)
		if d == 0 {
			continue
		}
		want, wantE := narrow(big.NewRat(int64(n), int64(d)))
		if got, e := Of(n, d); got != want || e != wantE {
			t.Fatalf("Of(%d, %d) = %v, %d, not %v, %d", n, d, got, e, want, wantE)
		}
	}
}

func TestValid(t *testing.T) {
	for _, r := range edges() {
		if !Valid(r) {
			t.Error(r, "is valid")
		}
	}
	for _, r := range invalid() {
		if Valid(r) {
			t.Error(r, "is not valid")
		}
	}
	for n := -30; n <= 30; n++ {
		for d := -30; d <= 30; d++ {
			r, e := Of(n, d)
			want := n == 0 && d == 0 || e == api.OK && r == Rat{n, d}
			if Valid(Rat{n, d}) != want {
				t.Error(n, d, !want)
			}
		}
	}
}

// P1.2

func TestOperations(t *testing.T) {
	for _, c := range []struct {
		name string
		a, b Rat
		want Rat
		e    api.Errno
	}{
		{"Add", Rat{3, 4}, Rat{5, 6}, Rat{19, 12}, api.OK},
		{"Add", Rat{1, 6}, Rat{1, 3}, Rat{1, 2}, api.OK},
		{"Add", Rat{1, 2}, Rat{-1, 2}, Rat{0, 1}, api.OK},
		{"Add", Rat{}, Rat{}, Rat{0, 1}, api.OK},
		{"Add", Rat{}, Rat{-2, 3}, Rat{-2, 3}, api.OK},
		{"Add", Rat{-2, 3}, Rat{}, Rat{-2, 3}, api.OK},
		{"Sub", Rat{1, 3}, Rat{1, 2}, Rat{-1, 6}, api.OK},
		{"Sub", Rat{}, Rat{2, 5}, Rat{-2, 5}, api.OK},
		{"Sub", Rat{}, Rat{}, Rat{0, 1}, api.OK},
		{"Mul", Rat{2, 3}, Rat{-9, 4}, Rat{-3, 2}, api.OK},
		{"Mul", Rat{}, Rat{-9, 4}, Rat{0, 1}, api.OK},
		{"Mul", Rat{-9, 4}, Rat{0, 1}, Rat{0, 1}, api.OK},
		{"Div", Rat{3, 4}, Rat{-3, 2}, Rat{-1, 2}, api.OK},
		{"Div", Rat{}, Rat{-3, 2}, Rat{0, 1}, api.OK},
		{"Div", Rat{1, 2}, Rat{}, Rat{}, api.ErrRange},
		{"Div", Rat{1, 2}, Rat{0, 1}, Rat{}, api.ErrRange},
		{"Div", Rat{}, Rat{}, Rat{}, api.ErrRange},
		// results at the limits and just beyond
		{"Add", Rat{Max - 1, 1}, Rat{1, 1}, Rat{Max, 1}, api.OK},
		{"Add", Rat{Max, 1}, Rat{1, 1}, Rat{}, api.ErrBig},
		{"Add", Rat{Max, 1}, Rat{1, 2}, Rat{}, api.ErrBig},
		{"Sub", Rat{1 - Max, 1}, Rat{1, 1}, Rat{-Max, 1}, api.OK},
		{"Sub", Rat{-Max, 1}, Rat{1, 1}, Rat{}, api.ErrBig},
		{"Mul", Rat{Max / 2, 1}, Rat{2, 1}, Rat{Max, 1}, api.OK},
		{"Mul", Rat{Max, 1}, Rat{-2, 1}, Rat{}, api.ErrBig},
		{"Mul", Rat{1, Max}, Rat{1, 2}, Rat{}, api.ErrBig},
		{"Mul", Rat{1, Max / 2}, Rat{1, 2}, Rat{1, Max}, api.OK},
		{"Div", Rat{1, 1}, Rat{Max, 1}, Rat{1, Max}, api.OK},
		{"Div", Rat{1, 1}, Rat{-1, Max}, Rat{-Max, 1}, api.OK},
		{"Div", Rat{1, 2}, Rat{Max, 1}, Rat{}, api.ErrBig},
		{"Div", Rat{-Max, 1}, Rat{1, 2}, Rat{}, api.ErrBig},
		// products of 2^64 and of 2^120, whose low word is 0
		{"Mul", Rat{1 << 32, 1}, Rat{1 << 32, 1}, Rat{}, api.ErrBig},
		{"Mul", Rat{1, 1 << 32}, Rat{1, 1 << 32}, Rat{}, api.ErrBig},
		{"Mul", Rat{Max, 1}, Rat{Max, 1}, Rat{}, api.ErrBig},
		{"Add", Rat{1, 1 << 32}, Rat{1, 3486784401}, Rat{}, api.ErrBig},
		// intermediate values of more than 64 bits, results that fit
		{"Add", Rat{Max - 1, Max}, Rat{1, Max}, Rat{1, 1}, api.OK},
		{"Add", Rat{1<<58 - 3, 3 << 58}, Rat{1, 1 << 58}, Rat{1, 3}, api.OK},
		{"Sub", Rat{Max, 3}, Rat{Max - 3, 3}, Rat{1, 1}, api.OK},
		{"Sub", Rat{Max - 1, Max}, Rat{Max - 1, Max}, Rat{0, 1}, api.OK},
		{"Mul", Rat{Max, 3}, Rat{-3, Max}, Rat{-1, 1}, api.OK},
		{"Mul", Rat{Max - 1, Max}, Rat{Max, Max - 1}, Rat{1, 1}, api.OK},
		{"Div", Rat{Max, Max - 1}, Rat{Max, Max - 1}, Rat{1, 1}, api.OK},
		{"Add", Rat{1, Max}, Rat{-1, Max - 1}, Rat{}, api.ErrBig},
		{"Sub", Rat{Max, Max - 1}, Rat{Max - 1, Max - 2}, Rat{}, api.ErrBig},
	} {
		i := slices.IndexFunc(operations(), func(o operation) bool { return o.name == c.name })
		if got, e := operations()[i].apply(c.a, c.b); got != c.want || e != c.e {
			t.Errorf("%s(%v, %v) = %v, %d, not %v, %d", c.name, c.a, c.b, got, e, c.want, c.e)
		}
	}
}

func TestOperationsRefuseInvalid(t *testing.T) {
	for _, o := range operations() {
		for _, bad := range invalid() {
			for _, r := range append(edges(), bad) {
				if got, e := o.apply(bad, r); (got != Rat{}) || e != api.ErrArg {
					t.Errorf("%s(%v, %v) = %v, %d", o.name, bad, r, got, e)
				}
				if got, e := o.apply(r, bad); (got != Rat{}) || e != api.ErrArg {
					t.Errorf("%s(%v, %v) = %v, %d", o.name, r, bad, got, e)
				}
			}
		}
	}
}

// The next two tests check Cmp (P1.3) as well.

func TestOperationsAgreeWithReference(t *testing.T) {
	for _, a := range edges() {
		for _, b := range edges() {
			checkOperations(t, a, b)
		}
	}
	s := sequence(2)
	for range 20000 {
		longest := 1 + int(s.word()%60)
		checkOperations(t, s.rat(longest), s.rat(longest))
	}
}

// Long operands seldom have short results, so here the results are chosen first.
func TestShortResultsOfLongOperands(t *testing.T) {
	s := sequence(3)
	for _, o := range operations() {
		found := 0
		for range 20000 {
			result, b := s.rat(20), s.rat(60)
			inverse := map[string]func(z, x, y *big.Rat) *big.Rat{
				"Add": (*big.Rat).Sub, "Sub": (*big.Rat).Add, "Mul": (*big.Rat).Quo, "Div": (*big.Rat).Mul,
			}[o.name]
			if b.N == 0 {
				continue
			}
			a, e := narrow(inverse(new(big.Rat), exact(result), exact(b)))
			if e != api.OK {
				continue
			}
			found++
			if got, e := o.apply(a, b); got != result || e != api.OK {
				t.Fatalf("%s(%v, %v) = %v, %d, not %v", o.name, a, b, got, e, result)
			}
			checkOperations(t, a, b)
		}
		if found < 1000 {
			t.Error(o.name, found)
		}
	}
}

// P1.3

func TestCmp(t *testing.T) {
	ascending := []Rat{
		{-Max, 1}, {1 - Max, 1}, {-7, 2}, {-Max, Max - 1}, {-1, 1}, {1 - Max, Max}, {-1, 2}, {-1, Max - 1}, {-1, Max},
		{0, 1}, {1, Max}, {1, Max - 1}, {1, 3}, {1, 2}, {Max - 2, Max - 1}, {Max - 1, Max}, {1, 1},
		{Max, Max - 1}, {Max - 1, Max - 2}, {7, 2}, {Max, 3}, {Max - 1, 1}, {Max, 1},
	}
	for i, a := range ascending {
		for j, b := range ascending {
			want := 0
			if i < j {
				want = -1
			} else if i > j {
				want = 1
			}
			if got := Cmp(a, b); got != want {
				t.Errorf("Cmp(%v, %v) = %d", a, b, got)
			}
		}
	}
	if Cmp(Rat{}, Rat{0, 1}) != 0 || Cmp(Rat{0, 1}, Rat{}) != 0 || Cmp(Rat{}, Rat{}) != 0 {
		t.Error("the zero value is not equal to 0")
	}
	if Cmp(Rat{}, Rat{1, Max}) != -1 || Cmp(Rat{}, Rat{-1, Max}) != 1 || Cmp(Rat{-1, Max}, Rat{}) != -1 {
		t.Error("the zero value is not between the others")
	}
	for _, bad := range invalid() {
		for _, r := range append(edges(), bad) {
			if Cmp(bad, r) != 0 || Cmp(r, bad) != 0 {
				t.Error(bad, r)
			}
		}
	}
}

func TestFloor(t *testing.T) {
	for _, c := range []struct {
		r    Rat
		want int
	}{
		{Rat{7, 2}, 3}, {Rat{-7, 2}, -4}, {Rat{-4, 1}, -4}, {Rat{4, 1}, 4}, {Rat{1, 3}, 0}, {Rat{-1, 3}, -1},
		{Rat{}, 0}, {Rat{0, 1}, 0}, {Rat{Max, 1}, Max}, {Rat{-Max, 1}, -Max}, {Rat{1, Max}, 0}, {Rat{-1, Max}, -1},
		{Rat{Max, 3}, Max / 3}, {Rat{-Max, 3}, -Max/3 - 1}, {Rat{-Max, Max - 1}, -2},
	} {
		if got := Floor(c.r); got != c.want {
			t.Errorf("Floor(%v) = %d, not %d", c.r, got, c.want)
		}
	}
	for _, bad := range invalid() {
		if Floor(bad) != 0 {
			t.Error(bad, Floor(bad))
		}
	}
	s := sequence(4)
	for range 10000 {
		r := s.rat(60)
		x := exact(r)
		// Div of math/big rounds down if the divisor is positive.
		if want := new(big.Int).Div(x.Num(), x.Denom()).Int64(); int64(Floor(r)) != want {
			t.Fatalf("Floor(%v) = %d, not %d", r, Floor(r), want)
		}
	}
}

// P1.4

func TestSum(t *testing.T) {
	for _, c := range []struct {
		l    []Rat
		want Rat
		e    api.Errno
	}{
		{nil, Rat{0, 1}, api.OK},
		{[]Rat{}, Rat{0, 1}, api.OK},
		{[]Rat{{}}, Rat{0, 1}, api.OK},
		{[]Rat{{2, 3}}, Rat{2, 3}, api.OK},
		{[]Rat{{1, 2}, {1, 3}, {1, 6}}, Rat{1, 1}, api.OK},
		{[]Rat{{Max, 1}, {-1, 1}, {1, 1}}, Rat{Max, 1}, api.OK},
		// the order counts: the same numbers do not fit on the way
		{[]Rat{{Max, 1}, {1, 1}, {-1, 1}}, Rat{}, api.ErrBig},
		// the first error counts
		{[]Rat{{Max, 1}, {1, 1}, {2, 4}}, Rat{}, api.ErrBig},
		{[]Rat{{2, 4}, {Max, 1}, {1, 1}}, Rat{}, api.ErrArg},
		{[]Rat{{2, 4}}, Rat{}, api.ErrArg},
		{[]Rat{{1, 2}, {1, 0}}, Rat{}, api.ErrArg},
	} {
		if got, e := Sum(c.l...); got != c.want || e != c.e {
			t.Errorf("Sum(%v) = %v, %d, not %v, %d", c.l, got, e, c.want, c.e)
		}
	}
	if got, e := Sum(); got != (Rat{0, 1}) || e != api.OK {
		t.Error(got, e)
	}
}

func TestSumIsAddFromLeftToRight(t *testing.T) {
	s := sequence(5)
	for range 2000 {
		var l []Rat
		for range s.word() % 6 {
			l = append(l, s.rat(30))
		}
		if s.word()%8 == 0 {
			l = append(l, Rat{2, 2})
		}
		want, wantE := Rat{0, 1}, api.OK
		for _, r := range l {
			if want, wantE = Add(want, r); wantE != api.OK {
				break
			}
		}
		given := slices.Clone(l)
		if got, e := Sum(l...); got != want || e != wantE {
			t.Fatalf("Sum(%v) = %v, %d, not %v, %d", l, got, e, want, wantE)
		}
		if !slices.Equal(l, given) {
			t.Fatal("Sum changed its arguments")
		}
	}
}

// P1.5

func TestText(t *testing.T) {
	for _, c := range []struct {
		r    Rat
		text string
	}{
		{Rat{}, "0"}, {Rat{0, 1}, "0"}, {Rat{1, 1}, "1"}, {Rat{-4, 1}, "-4"}, {Rat{7, 2}, "7/2"}, {Rat{-7, 2}, "-7/2"}, {Rat{100, 1}, "100"},
		{Rat{Max, 1}, "1152921504606846976"}, {Rat{-Max, 1}, "-1152921504606846976"},
		{Rat{1, Max}, "1/1152921504606846976"}, {Rat{1 - Max, Max}, "-1152921504606846975/1152921504606846976"},
	} {
		if got := Text(c.r); got != c.text {
			t.Errorf("Text(%v) = %q, not %q", c.r, got, c.text)
		}
		want := c.r
		if want.D == 0 {
			want.D = 1
		}
		if got, e := Parse(c.text); got != want || e != api.OK {
			t.Errorf("Parse(%q) = %v, %d", c.text, got, e)
		}
	}
	for _, bad := range invalid() {
		if Text(bad) != "" {
			t.Error(bad, Text(bad))
		}
	}
}

func TestParseRefuses(t *testing.T) {
	for _, s := range []string{
		"", " ", "-", "/", "-/", "x", "1x", "1/", "/2", "-/2", "1/2/3", "1//2", "1/2/", "--1", "1.5", "0x10", "1e3", "1_000", "½", "１",
		" 1", "1 ", "1 /2", "1/ 2", "1\n", "\x00", "1\x00",
		"+1", "1/+2", "-0", "+0", "00", "01", "-01", "1/02", "01/2", "0/1", "0/2", "-0/1", "0/0", "1/0", "1/-2", "-1/-2", "1/-0",
		"3/1", "-3/1", "6/4", "2/2", "-10/5",
		"1152921504606846977", "-1152921504606846977", "1/1152921504606846977", "1152921504606846977/2",
		"9223372036854775807", "-9223372036854775808", "9223372036854775808", "18446744073709551617", "1/18446744073709551618",
		strings.Repeat("1", 1000), strings.Repeat("0", 1000) + "1", "1/" + strings.Repeat("3", 1000),
	} {
		if got, e := Parse(s); (got != Rat{}) || e != api.ErrForm {
			t.Errorf("Parse(%q) = %v, %d", s, got, e)
		}
	}
}

func TestParseAcceptsExactlyTexts(t *testing.T) {
	for n := -40; n <= 40; n++ {
		for d := -40; d <= 40; d++ {
			s := strconv.Itoa(n) + "/" + strconv.Itoa(d)
			want, wantE := Rat{}, api.ErrForm
			if d > 1 && Valid(Rat{n, d}) {
				want, wantE = Rat{n, d}, api.OK
			}
			if got, e := Parse(s); got != want || e != wantE {
				t.Errorf("Parse(%q) = %v, %d", s, got, e)
			}
		}
	}
	s := sequence(6)
	for range 10000 {
		r := s.rat(60)
		if got, e := Parse(Text(r)); got != r || e != api.OK {
			t.Fatalf("Parse(%q) = %v, %d", Text(r), got, e)
		}
	}
}

// P1.6

func TestOrderedField(t *testing.T) {
	must := func(r Rat, e api.Errno) Rat {
		if e != api.OK {
			t.Fatal("a result is too big", e)
		}
		return r
	}
	add := func(a, b Rat) Rat { return must(Add(a, b)) }
	mul := func(a, b Rat) Rat { return must(Mul(a, b)) }
	s := sequence(7)
	for range 20000 {
		a, b, c := s.rat(10), s.rat(10), s.rat(10)
		for name, sides := range map[string][2]Rat{
			"a + b = b + a":             {add(a, b), add(b, a)},
			"(a + b) + c = a + (b + c)": {add(add(a, b), c), add(a, add(b, c))},
			"ab = ba":                   {mul(a, b), mul(b, a)},
			"(ab)c = a(bc)":             {mul(mul(a, b), c), mul(a, mul(b, c))},
			"a(b + c) = ab + ac":        {mul(a, add(b, c)), add(mul(a, b), mul(a, c))},
			"a + 0 = a":                 {add(a, Rat{}), a},
			"a * 1 = a":                 {mul(a, Rat{1, 1}), a},
			"(a - b) + b = a":           {add(must(Sub(a, b)), b), a},
		} {
			if sides[0] != sides[1] {
				t.Fatal(name, a, b, c)
			}
		}
		if b.N != 0 && mul(must(Div(a, b)), b) != a {
			t.Fatal("(a / b)b = a", a, b)
		}
		order := Cmp(a, b)
		if Cmp(b, a) != -order || Cmp(add(a, c), add(b, c)) != order {
			t.Fatal("addition does not preserve the order", a, b, c)
		}
		if sign := Cmp(c, Rat{}); Cmp(mul(a, c), mul(b, c)) != order*sign {
			t.Fatal("multiplication does not preserve the order", a, b, c)
		}
	}
}

// P1

func TestEveryArgument(t *testing.T) {
	words := []int{0, 1, -1, 2, -2, 3, Max - 1, Max, Max + 1, -Max + 1, -Max, -Max - 1, 1 << 62, -1 << 62, math.MaxInt, math.MinInt, math.MinInt + 1}
	var all []Rat
	for _, n := range words {
		for _, d := range words {
			all = append(all, Rat{n, d})
			checkResult(t, "Of")(Of(n, d))
		}
	}
	for _, a := range all {
		checkResult(t, "Sum")(Sum(a, a, a))
		if Valid(a) != (Text(a) != "") || !Valid(a) && Floor(a) != 0 {
			t.Error(a)
		}
		for _, b := range all {
			for _, o := range operations() {
				checkResult(t, o.name)(o.apply(a, b))
			}
			if Cmp(a, b) != -Cmp(b, a) {
				t.Error(a, b)
			}
		}
	}
}

// checkResult returns a check that a result is valid and not the zero value exactly if there is no error.
func checkResult(t *testing.T, name string) func(r Rat, e api.Errno) {
	t.Helper()
	return func(r Rat, e api.Errno) {
		t.Helper()
		if !Valid(r) || (r == Rat{}) != (e != api.OK) {
			t.Error(name, r, e)
		}
	}
}
