package linecode_test

import (
	"bytes"
	"fmt"
	"math"
	"math/bits"
	"slices"
	"strings"
	"testing"

	"fairlink/api"
	. "fairlink/linecode"
)

// balancedNumbers returns the numbers of six bits with three ones, in ascending order.
func balancedNumbers() []byte {
	var all []byte
	for s := range 64 {
		if bits.OnesCount(uint(s)) == 3 {
			all = append(all, byte(s))
		}
	}
	return all
}

// digits writes the bits of symbols of six bits as a text; from there, the
// definitions are followed in the tests.
func digits(symbols []byte) string {
	var text strings.Builder
	for _, s := range symbols {
		fmt.Fprintf(&text, "%06b", s)
	}
	return text.String()
}

// outside reports whether a symbol has more than six bits.
func outside(symbols []byte) bool {
	return len(symbols) > 0 && slices.Max(symbols) > 63
}

func wantBalanced(symbols []byte) bool {
	if outside(symbols) {
		return false
	}
	text := digits(symbols)
	for n := range len(text) + 1 {
		sum := strings.Count(text[:n], "1") - strings.Count(text[:n], "0")
		if sum < -3 || sum > 3 {
			return false
		}
	}
	return true
}

func wantRun(symbols []byte) int {
	if outside(symbols) {
		return 0
	}
	text, n := digits(symbols), 0
	for strings.Contains(text, strings.Repeat("0", n+1)) || strings.Contains(text, strings.Repeat("1", n+1)) {
		n++
	}
	return n
}

// sample returns a string of n bytes without a visible pattern, another one for each seed.
func sample(n, seed int) []byte {
	b := make([]byte, n)
	x := uint64(seed)*2654435761 + 12345
	for i := range b {
		x = x*6364136223846793005 + 1442695040888963407
		b[i] = byte(x >> 40)
	}
	return b
}

// chosen returns n of the given symbols, in an order without a visible pattern.
func chosen(from []byte, n, seed int) []byte {
	b := sample(n, seed)
	for i, x := range b {
		b[i] = from[int(x)%len(from)]
	}
	return b
}

// sixBits returns the numbers from 0 to 63.
func sixBits() []byte {
	all := make([]byte, 64)
	for s := range all {
		all[s] = byte(s)
	}
	return all
}

// lists returns lists of symbols of many lengths and kinds, valid and not.
func lists() [][]byte {
	valid := balancedNumbers()
	all := [][]byte{nil, {}, valid, sixBits(), make([]byte, 30), bytes.Repeat([]byte{63}, 30)}
	for x := range 256 {
		all = append(all, []byte{byte(x)}, []byte{11, byte(x)}, []byte{byte(x), 44, 56})
	}
	for n := range 40 {
		all = append(all, chosen(valid[:16], n, n), chosen(valid, n, n), chosen(sixBits(), n, n), sample(n, n))
		all = append(all, chosen([]byte{42, 21, 44, 7, 1}, n, n))
	}
	return append(all, chosen(valid[:16], 10001, 1), chosen(valid, 10000, 2))
}

// byteStrings returns strings of bytes of many lengths and kinds.
func byteStrings() [][]byte {
	all := [][]byte{nil, {}, {0}, {255}, []byte("123456789"), make([]byte, 50), bytes.Repeat([]byte{255}, 50)}
	for n := range 40 {
		all = append(all, sample(n, n))
	}
	return append(all, sample(65536, 1))
}

// P3.1

func TestDataAndControl(t *testing.T) {
	for i, s := range balancedNumbers() {
		name, symbol, number := "Data", Data, i
		if i >= 16 {
			name, symbol, number = "Control", Control, i-16
		}
		if got, e := symbol(number); got != s || e != api.OK {
			t.Errorf("%s(%d) = %d, %d, not %d", name, number, got, e, s)
		}
	}
	for _, c := range []struct {
		number int
		symbol byte
	}{{0, 7}, {1, 11}, {15, 44}} {
		if got, e := Data(c.number); got != c.symbol || e != api.OK {
			t.Errorf("Data(%d) = %d, %d, not %d", c.number, got, e, c.symbol)
		}
	}
}

func TestNumbersOfControlSymbols(t *testing.T) {
	for i, c := range []struct {
		number int
		symbol byte
	}{{Start, 49}, {Stop, 50}, {Idle, 52}, {Abort, 56}} {
		if got, e := Control(c.number); c.number != i || got != c.symbol || e != api.OK {
			t.Errorf("Control(%d) = %d, %d, not %d", c.number, got, e, c.symbol)
		}
	}
}

func TestNoSuchSymbol(t *testing.T) {
	far := []int{-1, -2, -15, -16, -17, -256, math.MinInt, math.MinInt + 16, math.MaxInt, math.MaxInt - 15, 256, 1 << 32, 1<<32 + 1, -1 << 32}
	for name, c := range map[string]struct {
		symbol func(int) (byte, api.Errno)
		beyond []int
	}{
		"Data":    {Data, []int{16, 17, 18, 19, 20, 63}},
		"Control": {Control, []int{4, 5, 15, 16, 19, 20, 49, 56}},
	} {
		for _, n := range append(c.beyond, far...) {
			if got, e := c.symbol(n); got != 0 || e != api.ErrRange {
				t.Errorf("%s(%d) = %d, %d", name, n, got, e)
			}
		}
	}
}

func TestValueOfEachByte(t *testing.T) {
	for x := range 256 {
		want, control, e := slices.Index(balancedNumbers(), byte(x)), false, api.OK
		if want >= 16 {
			want, control = want-16, true
		}
		if want < 0 {
			want, e = 0, api.ErrForm
		}
		if v, c, f := Value(byte(x)); v != want || c != control || f != e {
			t.Errorf("Value(%d) = %d, %t, %d, not %d, %t, %d", x, v, c, f, want, control, e)
		}
	}
}

// P3.2

func TestEncode(t *testing.T) {
	for _, c := range []struct{ b, symbols []byte }{
		{[]byte{0x1f}, []byte{11, 44}},
		{nil, nil},
		{[]byte{}, nil},
		{[]byte{0}, []byte{7, 7}},
		{[]byte{0xff}, []byte{44, 44}},
		{[]byte{0x0f, 0xf0}, []byte{7, 44, 44, 7}},
		{[]byte{0x01, 0x23, 0x45, 0x67, 0x89, 0xab, 0xcd, 0xef}, balancedNumbers()[:16]},
	} {
		if got := Encode(c.b); !bytes.Equal(got, c.symbols) {
			t.Errorf("Encode(%x) = %d, not %d", c.b, got, c.symbols)
		}
		if got, at, e := Decode(c.symbols); !bytes.Equal(got, c.b) || at != -1 || e != api.OK {
			t.Errorf("Decode(%d) = %x, %d, %d, not %x", c.symbols, got, at, e, c.b)
		}
	}
}

func TestEncodeEachByte(t *testing.T) {
	data := balancedNumbers()[:16]
	for x := range 256 {
		want := []byte{data[x/16], data[x%16]}
		if got := Encode([]byte{byte(x)}); !bytes.Equal(got, want) {
			t.Errorf("Encode(%x) = %d, not %d", x, got, want)
		}
		if got, at, e := Decode(want); !bytes.Equal(got, []byte{byte(x)}) || at != -1 || e != api.OK {
			t.Errorf("Decode(%d) = %x, %d, %d, not %x", want, got, at, e, x)
		}
	}
}

func TestDecodeIsInverse(t *testing.T) {
	for _, b := range byteStrings() {
		symbols := Encode(b)
		if got, at, e := Decode(symbols); len(symbols) != 2*len(b) || !bytes.Equal(got, b) || at != -1 || e != api.OK {
			t.Errorf("%d bytes: %d symbols, %d, %d", len(b), len(symbols), at, e)
		}
	}
}

func TestDecodeRefuses(t *testing.T) {
	for _, c := range []struct {
		symbols []byte
		at      int
		e       api.Errno
	}{
		// symbols that are none, at the first place, the last one, and between
		{[]byte{0}, 0, api.ErrForm},
		{[]byte{0, 7}, 0, api.ErrForm},
		{[]byte{7, 0}, 1, api.ErrForm},
		{[]byte{7, 7, 63, 7}, 2, api.ErrForm},
		{[]byte{7, 7, 7, 15}, 3, api.ErrForm},
		// control symbols
		{[]byte{49}, 0, api.ErrForm},
		{[]byte{11, 50}, 1, api.ErrForm},
		{[]byte{11, 44, 52, 44}, 2, api.ErrForm},
		{[]byte{11, 44, 11, 56}, 3, api.ErrForm},
		{[]byte{49, 11, 44, 50}, 0, api.ErrForm},
		// symbols above 63, also with the six bits of a data symbol
		{[]byte{64, 7}, 0, api.ErrForm},
		{[]byte{7, 255}, 1, api.ErrForm},
		{[]byte{11, 64 + 44}, 1, api.ErrForm},
		{[]byte{128 + 11, 44}, 0, api.ErrForm},
		{[]byte{11, 44, 192 + 7, 7}, 2, api.ErrForm},
		// several of them: the first one counts
		{[]byte{7, 0, 49, 255}, 1, api.ErrForm},
		{[]byte{7, 49, 0, 64}, 1, api.ErrForm},
		{[]byte{7, 7, 64, 49, 0}, 2, api.ErrForm},
		// odd numbers of symbols
		{[]byte{7}, 1, api.ErrEnd},
		{[]byte{44}, 1, api.ErrEnd},
		{[]byte{11, 44, 11}, 3, api.ErrEnd},
		{balancedNumbers()[:15], 15, api.ErrEnd},
		// odd numbers of symbols, one of which is not a data symbol
		{[]byte{11, 44, 0}, 2, api.ErrForm},
		{[]byte{11, 49, 44}, 1, api.ErrForm},
		{[]byte{64, 44, 11}, 0, api.ErrForm},
		{balancedNumbers()[:17], 16, api.ErrForm},
	} {
		if b, at, e := Decode(c.symbols); b != nil || at != c.at || e != c.e {
			t.Errorf("Decode(%d) = %x, %d, %d, not %d, %d", c.symbols, b, at, e, c.at, c.e)
		}
	}
}

func TestDecodeAcceptsEncodingsOnly(t *testing.T) {
	data := balancedNumbers()[:16]
	for _, symbols := range lists() {
		at := slices.IndexFunc(symbols, func(s byte) bool { return !slices.Contains(data, s) })
		want := api.OK
		switch {
		case at >= 0:
			want = api.ErrForm
		case len(symbols)%2 != 0:
			at, want = len(symbols), api.ErrEnd
		}
		b, i, e := Decode(symbols)
		if i != at || e != want || e != api.OK && b != nil || e == api.OK && !bytes.Equal(Encode(b), symbols) {
			t.Errorf("Decode(%d) = %x, %d, %d, not %d, %d", symbols, b, i, e, at, want)
		}
	}
}

// P3.3

func TestBalancedAndRun(t *testing.T) {
	for _, c := range []struct {
		symbols  []byte
		balanced bool
		run      int
	}{
		{nil, true, 0},
		{[]byte{}, true, 0},
		// valid symbols, whose runs go on in the next one
		{[]byte{7}, true, 3},
		{[]byte{56}, true, 3},
		{[]byte{7, 56}, true, 6},
		{[]byte{56, 7}, true, 6},
		{[]byte{7, 7}, true, 3},
		{[]byte{42}, true, 1},
		{[]byte{21}, true, 1},
		{[]byte{42, 42, 42}, true, 1},
		{[]byte{42, 21}, true, 2},
		{[]byte{21, 42}, true, 2},
		// the longest run at the beginning, inside, and at the end
		{[]byte{56, 42, 42}, true, 3},
		{[]byte{42, 14, 42}, true, 3},
		{[]byte{42, 42, 40}, true, 3},
		// symbols that are not valid may be balanced: 001111, 110000
		{[]byte{15}, true, 4},
		{[]byte{48}, true, 4},
		// sums of 4 and of -4, at once, later, and at the end: 111100, 000011
		{[]byte{60}, false, 4},
		{[]byte{3}, false, 4},
		{[]byte{44, 60}, false, 4},
		{[]byte{19, 3}, false, 4},
		{[]byte{15, 15}, false, 4},
		{[]byte{48, 48}, false, 4},
		{[]byte{15, 48}, false, 6},
		{[]byte{48, 15}, false, 6},
		// sums that go on from symbol to symbol, and reach 4 or -4 with the last bit: 101011, 010100
		{[]byte{43}, true, 2},
		{[]byte{43, 43}, false, 3},
		{[]byte{20}, true, 2},
		{[]byte{20, 20}, false, 3},
		{[]byte{43, 20, 43, 20}, true, 2},
		// six equal bits
		{[]byte{0}, false, 6},
		{[]byte{63}, false, 6},
		{[]byte{0, 0, 0}, false, 18},
		{[]byte{63, 63}, false, 12},
		{[]byte{0, 63}, false, 6},
		// symbols above 63, at any place
		{[]byte{64}, false, 0},
		{[]byte{255}, false, 0},
		{[]byte{128 + 7}, false, 0},
		{[]byte{64 + 42, 42}, false, 0},
		{[]byte{42, 64 + 42}, false, 0},
		{[]byte{0, 0, 64}, false, 0},
	} {
		if got := Balanced(c.symbols); got != c.balanced {
			t.Errorf("Balanced(%d) = %t", c.symbols, got)
		}
		if got := Run(c.symbols); got != c.run {
			t.Errorf("Run(%d) = %d, not %d", c.symbols, got, c.run)
		}
	}
}

func TestBalancedAndRunAgreeWithDefinition(t *testing.T) {
	check := func(symbols ...byte) {
		if got, want := Balanced(symbols), wantBalanced(symbols); got != want {
			t.Fatalf("Balanced(%d) = %t", symbols, got)
		}
		if got, want := Run(symbols), wantRun(symbols); got != want {
			t.Fatalf("Run(%d) = %d, not %d", symbols, got, want)
		}
	}
	for x := range 256 {
		check(byte(x))
	}
	for x := range 66 {
		for y := range 66 {
			check(byte(x), byte(y))
		}
	}
	for _, symbols := range lists() {
		check(symbols[:min(100, len(symbols))]...)
	}
}

// P3.4

func TestFlip(t *testing.T) {
	for _, c := range []struct {
		symbols []byte
		bit     int
		want    []byte
	}{
		{[]byte{0}, 0, []byte{32}},
		{[]byte{0}, 1, []byte{16}},
		{[]byte{0}, 4, []byte{2}},
		{[]byte{0}, 5, []byte{1}},
		{[]byte{63}, 0, []byte{31}},
		{[]byte{63}, 5, []byte{62}},
		{[]byte{11, 44}, 5, []byte{10, 44}},
		{[]byte{11, 44}, 6, []byte{11, 12}},
		{[]byte{11, 44}, 11, []byte{11, 45}},
		{[]byte{7, 7, 7}, 9, []byte{7, 3, 7}},
		// the two upper bits of a byte are not counted, and stay
		{[]byte{255}, 0, []byte{223}},
		{[]byte{255}, 5, []byte{254}},
		{[]byte{64, 128}, 0, []byte{96, 128}},
		{[]byte{64, 128}, 6, []byte{64, 160}},
		{[]byte{64, 128}, 11, []byte{64, 129}},
	} {
		if got, e := Flip(c.symbols, c.bit); !bytes.Equal(got, c.want) || e != api.OK {
			t.Errorf("Flip(%d, %d) = %d, %d, not %d", c.symbols, c.bit, got, e, c.want)
		}
	}
}

func TestFlipNoSuchBit(t *testing.T) {
	for _, symbols := range lists() {
		n := 6 * len(symbols)
		for _, bit := range []int{-1, -2, -5, -6, -7, -n, -n - 1, math.MinInt, n, n + 1, n + 5, n + 6, 8*len(symbols) + 6, 1 << 32, math.MaxInt} {
			if bit >= 0 && bit < n {
				continue
			}
			if got, e := Flip(symbols, bit); got != nil || e != api.ErrRange {
				t.Fatalf("Flip(%d, %d) = %d, %d", symbols, bit, got, e)
			}
		}
	}
}

func TestFlipEachBit(t *testing.T) {
	for _, symbols := range lists() {
		symbols = symbols[:min(65, len(symbols))]
		for bit := range 6 * len(symbols) {
			want := slices.Clone(symbols)
			want[bit/6] ^= []byte{32, 16, 8, 4, 2, 1}[bit%6]
			got, e := Flip(symbols, bit)
			if !bytes.Equal(got, want) || e != api.OK {
				t.Fatalf("Flip(%d, %d) = %d, %d, not %d", symbols, bit, got, e, want)
			}
			if back, e := Flip(got, bit); !bytes.Equal(back, symbols) || e != api.OK {
				t.Fatalf("Flip(%d, %d) = %d, %d, not %d", got, bit, back, e, symbols)
			}
		}
	}
}

// P3.5

func TestValidSymbolsAreBalanced(t *testing.T) {
	valid := balancedNumbers()
	check := func(symbols ...byte) {
		if !Balanced(symbols) || Run(symbols) > 6 {
			t.Fatalf("%d: Balanced = %t, Run = %d", symbols, Balanced(symbols), Run(symbols))
		}
	}
	for _, x := range valid {
		check(x)
		for _, y := range valid {
			check(x, y)
			for _, z := range valid {
				check(x, y, z)
			}
		}
	}
	for n := range 300 {
		check(chosen(valid, n, n)...)
	}
	for _, b := range byteStrings() {
		check(Encode(b)...)
	}
}

func TestInvertedBitMakesInvalid(t *testing.T) {
	for _, s := range balancedNumbers() {
		for bit := range 6 {
			changed, e := Flip([]byte{s}, bit)
			if e != api.OK {
				t.Fatal(s, bit, e)
			}
			if v, control, e := Value(changed[0]); v != 0 || control || e != api.ErrForm {
				t.Errorf("%d with the bit %d inverted: %d, %t, %d", s, bit, v, control, e)
			}
		}
	}
}

func TestInvertedBitIsFoundAtItsIndex(t *testing.T) {
	every := make([]byte, 256)
	for x := range every {
		every[x] = byte(x)
	}
	for _, b := range append(byteStrings()[:47], every) {
		symbols := Encode(b)
		for bit := range 6 * len(symbols) {
			changed, _ := Flip(symbols, bit)
			// a missing symbol does not hide it
			for n := bit/6 + 1; n <= min(len(symbols), bit/6+2); n++ {
				if got, at, e := Decode(changed[:n]); got != nil || at != bit/6 || e != api.ErrForm {
					t.Fatalf("%d bytes, bit %d: %x, %d, %d", len(b), bit, got, at, e)
				}
			}
			if got, at, e := Decode(changed); got != nil || at != bit/6 || e != api.ErrForm {
				t.Fatalf("%d bytes, bit %d: %x, %d, %d", len(b), bit, got, at, e)
			}
		}
	}
}

func TestEncodingOfJoinedStrings(t *testing.T) {
	all := byteStrings()
	for _, a := range all {
		for _, b := range all[:20] {
			if !bytes.Equal(Encode(slices.Concat(a, b)), slices.Concat(Encode(a), Encode(b))) {
				t.Errorf("%x and %x", a, b)
			}
		}
	}
}

// P1

func TestEveryNumber(t *testing.T) {
	for n := -300; n < 300; n++ {
		s, e := Data(n)
		if (e == api.OK) != (n >= 0 && n < 16) || e != api.OK && (s != 0 || e != api.ErrRange) {
			t.Errorf("Data(%d) = %d, %d", n, s, e)
		}
		s, e = Control(n)
		if (e == api.OK) != (n >= 0 && n < 4) || e != api.OK && (s != 0 || e != api.ErrRange) {
			t.Errorf("Control(%d) = %d, %d", n, s, e)
		}
	}
}

func TestLongLists(t *testing.T) {
	long := chosen(balancedNumbers()[:16], 1<<20, 1)
	if b, at, e := Decode(long); !bytes.Equal(Encode(b), long) || at != -1 || e != api.OK {
		t.Error(len(b), at, e)
	}
	if b, at, e := Decode(long[1:]); b != nil || at != len(long)-1 || e != api.ErrEnd {
		t.Error(len(b), at, e)
	}
	if !Balanced(long) || Run(long) > 6 {
		t.Error(Balanced(long), Run(long))
	}
	zeros := make([]byte, 1<<20)
	if Balanced(zeros) || Run(zeros) != 6<<20 {
		t.Error(Balanced(zeros), Run(zeros))
	}
}

// room returns a slice of the first elements of a longer one, and the longer one.
func room(b []byte) ([]byte, []byte) {
	whole := slices.Concat(b, bytes.Repeat([]byte{0xa5}, 64))
	return whole[:len(b)], whole
}

// spoil overwrites a slice and the room behind it.
func spoil(b []byte) {
	b = b[:cap(b)]
	for i := range b {
		b[i] ^= 0x5a
	}
}

func TestArgumentsStay(t *testing.T) {
	for _, symbols := range lists() {
		for name, call := range map[string]func(b []byte){
			"Encode":   func(b []byte) { Encode(b) },
			"Decode":   func(b []byte) { Decode(b) },
			"Balanced": func(b []byte) { Balanced(b) },
			"Run":      func(b []byte) { Run(b) },
			"Flip":     func(b []byte) { Flip(b, 0); Flip(b, 6*len(b)-1); Flip(b, 6*len(b)); Flip(b, -1) },
		} {
			part, whole := room(symbols)
			before := slices.Clone(whole)
			if call(part); !bytes.Equal(whole, before) {
				t.Errorf("%s changed its argument %d, or what lies behind it", name, symbols)
			}
		}
	}
}

func TestResultsAreNewMemory(t *testing.T) {
	for _, given := range append(byteStrings(), lists()...) {
		for name, call := range map[string]func(b []byte) []byte{
			"Encode": Encode,
			"Decode": func(b []byte) []byte { got, _, _ := Decode(b); return got },
			"Flip":   func(b []byte) []byte { got, _ := Flip(b, 3*len(b)); return got },
		} {
			part, whole := room(given)
			before := slices.Clone(whole)
			got := call(part)
			want := slices.Clone(got)
			_ = append(got, 1, 2, 3, 4)
			spoil(got)
			if !bytes.Equal(whole, before) {
				t.Errorf("%s of %d elements: changing the result changes the argument", name, len(given))
			}
			// what was done to an earlier result is not seen in a later one
			got = call(part)
			spoil(part)
			if !bytes.Equal(got, want) {
				t.Errorf("%s of %d elements: changing the argument or an earlier result changes the result", name, len(given))
			}
		}
	}
}
