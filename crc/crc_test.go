package crc_test

import (
	"bytes"
	"hash/crc32"
	"math"
	"slices"
	"strings"
	"testing"

	"fairlink/api"
	. "fairlink/crc"
)

// register carries out the definition of the check sum, bit by bit; it is the
// reference here, beside the library's hash/crc32, which the program does not use.
func register(r uint32, b []byte) uint32 {
	for _, x := range b {
		for k := range 8 {
			out := r & 1
			r >>= 1
			if out != uint32(x>>k)&1 {
				r ^= 0xedb88320
			}
		}
	}
	return r
}

// sample returns a string of n bytes without a visible pattern, another one for each seed.
func sample(n, seed int) []byte {
	b := make([]byte, n)
	x := uint64(seed)*2654435761 + 12345
	for i := range b {
		x = x*6364136223846793005 + 1442695040888963407
		b[i] = byte(x >> 40)
	}
	return b
}

// samples returns strings of many lengths and kinds.
func samples() [][]byte {
	all := [][]byte{nil, {}, {0}, {255}, []byte("123456789")}
	for n := range 70 {
		all = append(all, sample(n, n), make([]byte, n), bytes.Repeat([]byte{255}, n))
	}
	return append(all, sample(1000, 1), sample(65536, 2), make([]byte, 4096))
}

// flip returns a copy of b in which the bits at the positions are inverted.
func flip(b []byte, positions ...int) []byte {
	changed := slices.Clone(b)
	for _, p := range positions {
		changed[p/8] ^= 1 << (p % 8)
	}
	return changed
}

// P2.1

func TestSumExamples(t *testing.T) {
	for _, c := range []struct {
		s   string
		sum uint32
	}{
		{"123456789", 0xcbf43926},
		{"", 0},
		{"a", 0xe8b7be43},
		{"abc", 0x352441c2},
		{"\x00", 0xd202ef8d},
		{"\xff", 0xff000000},
		{"\x00\x00\x00\x00", 0x2144df1c},
		{"\xff\xff\xff\xff", 0xffffffff},
		{"The quick brown fox jumps over the lazy dog", 0x414fa339},
		{strings.Repeat("\x00", 32), 0x190a55ad},
		{strings.Repeat("\xff", 32), 0xff6cab0b},
	} {
		if got := Sum([]byte(c.s)); got != c.sum {
			t.Errorf("Sum(%q) = %x, not %x", c.s, got, c.sum)
		}
	}
	if Sum(nil) != 0 || Sum([]byte{}) != 0 {
		t.Error(Sum(nil), Sum([]byte{}))
	}
}

func TestSumOfEachByte(t *testing.T) {
	for x := range 256 {
		for y := range 256 {
			b := []byte{byte(x), byte(y)}
			if got, want := Sum(b), ^register(math.MaxUint32, b); got != want {
				t.Fatalf("Sum(%x) = %x, not %x", b, got, want)
			}
		}
	}
}

func TestSumAgreesWithDefinition(t *testing.T) {
	for _, b := range samples() {
		got := Sum(b)
		if want := ^register(math.MaxUint32, b); got != want || want != crc32.ChecksumIEEE(b) {
			t.Errorf("Sum of %d bytes = %x, not %x", len(b), got, want)
		}
	}
}

func TestUpdateContinuesAnySum(t *testing.T) {
	for i, b := range samples() {
		start := crc32.ChecksumIEEE(sample(4, i))
		for _, sum := range []uint32{0, 1, 1 << 31, math.MaxUint32, 0x2144df1c, 0xedb88320, start} {
			got := Update(sum, b)
			if want := ^register(^sum, b); got != want || want != crc32.Update(sum, crc32.IEEETable, b) {
				t.Errorf("Update(%x, %d bytes) = %x, not %x", sum, len(b), got, want)
			}
		}
		if Update(start, nil) != start || Update(start, []byte{}) != start {
			t.Errorf("Update(%x, nil) = %x", start, Update(start, nil))
		}
	}
}

func TestUpdateJoinsStrings(t *testing.T) {
	for _, b := range [][]byte{nil, {7}, []byte("123456789"), sample(100, 1)} {
		want := Sum(b)
		if got := Update(0, b); got != want {
			t.Errorf("from the empty string: %x, not %x", got, want)
		}
		for i := range len(b) + 1 {
			if got := Update(Sum(b[:i]), b[i:]); got != want {
				t.Errorf("%d bytes and %d bytes: %x, not %x", i, len(b)-i, got, want)
			}
		}
		one := uint32(0)
		for i := range b {
			one = Update(one, b[i:i+1])
		}
		if one != want {
			t.Errorf("byte by byte: %x, not %x", one, want)
		}
	}
}

// P2.2

func TestAppend(t *testing.T) {
	for _, c := range []struct{ s, sealed string }{
		{"123456789", "123456789\x26\x39\xf4\xcb"},
		{"", "\x00\x00\x00\x00"},
		{"a", "a\x43\xbe\xb7\xe8"},
		{"\xff", "\xff\x00\x00\x00\xff"},
		{"\x00\x00\x00\x00", "\x00\x00\x00\x00\x1c\xdf\x44\x21"},
	} {
		if got := Append([]byte(c.s)); string(got) != c.sealed {
			t.Errorf("Append(%q) = %q, not %q", c.s, got, c.sealed)
		}
	}
	if got := Append(nil); string(got) != "\x00\x00\x00\x00" {
		t.Errorf("Append(nil) = %q", got)
	}
	for _, b := range samples() {
		x := crc32.ChecksumIEEE(b)
		want := slices.Concat(b, []byte{byte(x), byte(x >> 8), byte(x >> 16), byte(x >> 24)})
		if got := Append(b); !bytes.Equal(got, want) {
			t.Errorf("Append of %d bytes = %x, not %x", len(b), got, want)
		}
	}
}

func TestCheck(t *testing.T) {
	for _, b := range samples() {
		if got, e := Check(Append(b)); !bytes.Equal(got, b) || e != api.OK {
			t.Errorf("Check of %d bytes = %x, %d", len(b), got, e)
		}
		// a string that is sealed twice is one that is sealed
		if got, e := Check(Append(Append(b))); !bytes.Equal(got, Append(b)) || e != api.OK {
			t.Errorf("Check of %d bytes, sealed twice = %x, %d", len(b), got, e)
		}
	}
	for _, c := range []struct{ sealed, s string }{
		{"123456789\x26\x39\xf4\xcb", "123456789"},
		{"\x00\x00\x00\x00", ""},
		{"\xff\x00\x00\x00\xff", "\xff"},
	} {
		if got, e := Check([]byte(c.sealed)); string(got) != c.s || e != api.OK {
			t.Errorf("Check(%q) = %q, %d", c.sealed, got, e)
		}
	}
}

func TestCheckRefuses(t *testing.T) {
	for _, c := range []struct {
		s string
		e api.Errno
	}{
		{"", api.ErrEnd},
		{"\x00", api.ErrEnd},
		{"\x00\x00", api.ErrEnd},
		{"\x00\x00\x00", api.ErrEnd},
		{"\xff\xff\xff", api.ErrEnd},
		{"\x00\x00\x00\x01", api.ErrSum},
		{"\x01\x00\x00\x00", api.ErrSum},
		{"\x1c\xdf\x44\x21", api.ErrSum},
		{"\xff\xff\xff\xff", api.ErrSum},
		{"\x00\x00\x00\x00\x00", api.ErrSum},
		{"123456789", api.ErrSum},
		{"123456789\xcb\xf4\x39\x26", api.ErrSum}, // the most significant byte first
		{"123456789\xd9\xc6\x0b\x34", api.ErrSum}, // the check sum inverted
		{"123456789\x26\x39\xf4", api.ErrSum},
		{"23456789\x26\x39\xf4\xcb", api.ErrSum},
		{"123456789\x26\x39\xf4\xcb\x00", api.ErrSum},
		{"\x00123456789\x26\x39\xf4\xcb", api.ErrSum},
	} {
		if got, e := Check([]byte(c.s)); got != nil || e != c.e {
			t.Errorf("Check(%q) = %q, %d, not %d", c.s, got, e, c.e)
		}
	}
	if got, e := Check(nil); got != nil || e != api.ErrEnd {
		t.Errorf("Check(nil) = %q, %d", got, e)
	}
}

func TestCheckAcceptsOneSeal(t *testing.T) {
	for _, b := range [][]byte{nil, {0}, []byte("123456789")} {
		sealed := Append(b)
		for i := range 4 {
			accepted := 0
			for x := range 256 {
				tried := slices.Clone(sealed)
				tried[len(b)+i] = byte(x)
				if got, e := Check(tried); e == api.OK && bytes.Equal(got, b) {
					accepted++
				}
			}
			if accepted != 1 {
				t.Errorf("byte %d of the check sum of %q: %d values accepted", i, b, accepted)
			}
		}
	}
}

// room returns a slice of the first n bytes of a longer one, and the longer one.
func room(b []byte) ([]byte, []byte) {
	whole := slices.Concat(b, bytes.Repeat([]byte{0xa5}, 64))
	return whole[:len(b)], whole
}

func TestArgumentsStay(t *testing.T) {
	for _, b := range samples() {
		for name, call := range map[string]func(b []byte){
			"Sum":    func(b []byte) { Sum(b) },
			"Update": func(b []byte) { Update(5, b) },
			"Append": func(b []byte) { Append(b) },
			"Check":  func(b []byte) { Check(b); Check(b[len(b)/2:]) },
			"Errors": func(b []byte) { Errors(b, b); Errors(b[len(b)/2:], b[:len(b)-len(b)/2]) },
		} {
			for _, given := range [][]byte{b, Append(b)} {
				part, whole := room(given)
				before := slices.Clone(whole)
				if call(part); !bytes.Equal(whole, before) {
					t.Errorf("%s changed its argument of %d bytes, or what lies behind it", name, len(given))
				}
			}
		}
	}
}

// spoil overwrites a slice and the room behind it.
func spoil(b []byte) {
	b = b[:cap(b)]
	for i := range b {
		b[i] ^= 0x5a
	}
}

func TestAppendIsNewMemory(t *testing.T) {
	for _, b := range samples() {
		part, whole := room(b)
		before := slices.Clone(whole)
		got := Append(part)
		spoil(got)
		spoil(Append(got[:len(b)]))
		if !bytes.Equal(whole, before) {
			t.Errorf("Append of %d bytes: changing the result changes the argument", len(b))
		}
		got = Append(part)
		want := slices.Clone(got)
		spoil(part)
		if !bytes.Equal(got, want) {
			t.Errorf("Append of %d bytes: changing the argument changes the result", len(b))
		}
	}
}

func TestCheckIsNewMemory(t *testing.T) {
	for _, b := range samples() {
		part, whole := room(Append(b))
		before := slices.Clone(whole)
		got, _ := Check(part)
		spoil(got)
		_ = append(got, 1, 2, 3, 4)
		if !bytes.Equal(whole, before) {
			t.Errorf("Check of %d bytes: changing the result changes the argument", len(b))
		}
		got, _ = Check(part)
		spoil(part)
		if !bytes.Equal(got, b) {
			t.Errorf("Check of %d bytes: changing the argument changes the result", len(b))
		}
	}
}

// P2.3

func TestErrors(t *testing.T) {
	long := strings.Repeat("\x00", 1000)
	for _, c := range []struct {
		a, b         string
		count, burst int
	}{
		{"\x0f", "\x1e", 2, 5},
		// equal strings
		{"", "", 0, 0},
		{"\x00", "\x00", 0, 0},
		{"123456789", "123456789", 0, 0},
		{long, long, 0, 0},
		// different lengths
		{"", "a", -1, -1},
		{"a", "", -1, -1},
		{"ab", "abc", -1, -1},
		{"abc", "bc", -1, -1},
		{long, long + "\x01", -1, -1},
		// the first and the last bit, alone and together
		{"\x00", "\x01", 1, 1},
		{"\x00", "\x80", 1, 1},
		{"\x00", "\x81", 2, 8},
		{"\x00\x00\x00", "\x01\x00\x00", 1, 1},
		{"\x00\x00\x00", "\x00\x00\x80", 1, 1},
		{"\x00\x00\x00", "\x01\x00\x80", 2, 24},
		{"\x00" + long + "\x00", "\x01" + long + "\x80", 2, 8016},
		// neighbors, also across the border of two bytes
		{"\x00", "\x18", 2, 2},
		{"\x00\x00", "\x80\x01", 2, 2},
		{"\x00\x00", "\x01\x80", 2, 16},
		{"\x00\x00", "\x80\x80", 2, 9},
		{"\x00\x00", "\x01\x01", 2, 9},
		{"\xff\xff", "\x7f\xfe", 2, 2},
		// many bits
		{"\x00", "\xff", 8, 8},
		{"\x55", "\xaa", 8, 8},
		{"\x00\x00\x00", "\xff\xff\xff", 24, 24},
		{"\x00\x00\x00", "\x10\xff\x02", 10, 14},
		{"abcd", "abXd", 5, 6},
	} {
		for _, pair := range [][2]string{{c.a, c.b}, {c.b, c.a}} {
			count, burst := Errors([]byte(pair[0]), []byte(pair[1]))
			if count != c.count || burst != c.burst {
				t.Errorf("Errors(%q, %q) = %d, %d, not %d, %d", pair[0], pair[1], count, burst, c.count, c.burst)
			}
		}
	}
}

func TestErrorsOfNil(t *testing.T) {
	for _, c := range []struct {
		a, b []byte
		want int
	}{{nil, nil, 0}, {nil, []byte{}, 0}, {[]byte{}, nil, 0}, {nil, []byte{0}, -1}, {[]byte{0}, nil, -1}} {
		if count, burst := Errors(c.a, c.b); count != c.want || burst != c.want {
			t.Errorf("Errors(%v, %v) = %d, %d, not %d", c.a, c.b, count, burst, c.want)
		}
	}
}

func TestErrorsOfPositions(t *testing.T) {
	b := sample(9, 1)
	for p := range 72 {
		if count, burst := Errors(b, flip(b, p)); count != 1 || burst != 1 {
			t.Errorf("position %d: %d, %d", p, count, burst)
		}
		for q := range p {
			if count, burst := Errors(flip(b, p), flip(b, q)); count != 2 || burst != p-q+1 {
				t.Errorf("positions %d and %d: %d, %d", q, p, count, burst)
			}
			for r := range q {
				if count, burst := Errors(b, flip(b, p, q, r)); count != 3 || burst != p-r+1 {
					t.Errorf("positions %d, %d, and %d: %d, %d", r, q, p, count, burst)
				}
			}
		}
	}
}

// P2.4

func refused(b []byte) bool {
	got, e := Check(b)
	return got == nil && e == api.ErrSum
}

// burst returns a copy of b that is changed in a burst: the bits of pattern, from the position first on.
func burst(b []byte, first int, pattern uint32) []byte {
	changed := slices.Clone(b)
	for k := range 32 {
		if pattern>>k&1 != 0 {
			p := first + k
			changed[p/8] ^= 1 << (p % 8)
		}
	}
	return changed
}

func TestBurstsAreRefused(t *testing.T) {
	fillings := []uint32{0, math.MaxUint32, 0x55555555, 0xaaaaaaaa, 0xedb88320, 0x04c11db7, 0xdeb26eb3, 0x12345678}
	for n := range 30 {
		sealed := Append(sample(n, n))
		for length := 1; length <= 32; length++ {
			for first := range 8*len(sealed) - length + 1 {
				for _, filling := range fillings {
					ends := uint32(1) | 1<<(length-1)
					pattern := ends | filling&(1<<(length-1)-1)
					changed := burst(sealed, first, pattern)
					if _, got := Errors(sealed, changed); got != length || !refused(changed) {
						t.Fatalf("%d bytes, changed by %x from position %d on", n, pattern, first)
					}
				}
			}
		}
	}
}

func TestBurstsOfLongStringsAreRefused(t *testing.T) {
	sealed := Append(sample(5000, 1))
	end := 8 * len(sealed)
	for _, first := range []int{0, 1, 7, 8, end / 2, end - 64, end - 63, end - 48, end - 40, end - 33, end - 32} {
		for x := range 200 {
			pattern := crc32.ChecksumIEEE(sample(4, x)) | 1
			if !refused(burst(sealed, first, pattern)) {
				t.Errorf("changed by %x from position %d on", pattern, first)
			}
		}
	}
}

func TestOneTwoThreeBitsAreRefused(t *testing.T) {
	for _, n := range []int{0, 1, 7} {
		sealed := Append(sample(n, n))
		for p := range 8 * len(sealed) {
			if !refused(flip(sealed, p)) {
				t.Fatal(n, p)
			}
			for q := range p {
				if !refused(flip(sealed, p, q)) {
					t.Fatal(n, p, q)
				}
				for r := range q {
					if !refused(flip(sealed, p, q, r)) {
						t.Fatal(n, p, q, r)
					}
				}
			}
		}
	}
}

func TestBitsOfLongestStringAreRefused(t *testing.T) {
	sealed := Append(sample(96, 1))
	bits := 8 * len(sealed)
	for p := range bits {
		if !refused(flip(sealed, p)) {
			t.Fatal(p)
		}
		for q := range p {
			third := (p*q + p) % bits
			if !refused(flip(sealed, p, q)) || third != p && third != q && !refused(flip(sealed, p, q, third)) {
				t.Fatal(p, q, third)
			}
		}
	}
}

// All sets of three bits of 100 bytes are too many to be tried. But the check
// sum is linear, so they are refused if the changes that single bits cause to
// it are not zero and different, and none of them is the sum of two others.
func TestEveryThreeBitsChangeTheSum(t *testing.T) {
	zeros := make([]byte, 100)
	plain := Sum(zeros)
	seen := map[uint32]bool{0: true}
	var changes []uint32
	for p := range 800 {
		change := plain ^ Sum(flip(zeros, p))
		if seen[change] {
			t.Fatal("two bits, or one, leave the check sum as it is", p)
		}
		seen[change] = true
		changes = append(changes, change)
	}
	for p, x := range changes {
		for q, y := range changes[:p] {
			if seen[x^y] {
				t.Fatal("three bits leave the check sum as it is", p, q)
			}
		}
	}
}

func TestSumOfSealedStrings(t *testing.T) {
	for _, b := range samples() {
		if got := Sum(Append(b)); got != 0x2144df1c {
			t.Errorf("%d bytes: %x", len(b), got)
		}
	}
}

func TestSumIsLinear(t *testing.T) {
	for n := range 200 {
		a, b, c := sample(n, 3*n), sample(n, 3*n+1), sample(n, 3*n+2)
		all := make([]byte, n)
		for i := range all {
			all[i] = a[i] ^ b[i] ^ c[i]
		}
		if got, want := Sum(all), Sum(a)^Sum(b)^Sum(c); got != want {
			t.Errorf("%d bytes: %x, not %x", n, got, want)
		}
	}
}

// P1

func TestEveryArgument(t *testing.T) {
	all := samples()
	for i, a := range all {
		opened, e := Check(a)
		want := api.OK
		if len(a) < 4 {
			want = api.ErrEnd
		} else if !bytes.Equal(Append(a[:len(a)-4]), a) {
			want = api.ErrSum
		}
		if e != want || e != api.OK && opened != nil {
			t.Errorf("Check of %d bytes = %x, %d, not %d", len(a), opened, e, want)
		}
		for _, b := range all[:i] {
			count, burst := Errors(a, b)
			switch {
			case len(a) != len(b):
				if count != -1 || burst != -1 {
					t.Error(len(a), len(b), count, burst)
				}
			case count > burst || burst > 8*len(a) || (count == 0) != bytes.Equal(a, b) || (burst == 0) != (count == 0):
				t.Error(len(a), count, burst)
			}
		}
	}
}
