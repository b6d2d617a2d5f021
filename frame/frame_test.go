package frame_test

import (
	"bytes"
	"encoding/binary"
	"hash/crc32"
	"math"
	"slices"
	"testing"

	"fairlink/api"
	. "fairlink/frame"
)

// sample returns a string of n bytes without a visible pattern, another one for each seed.
func sample(n, seed int) []byte {
	b := make([]byte, n)
	x := uint64(seed)*2654435761 + 12345
	for i := range b {
		x = x*6364136223846793005 + 1442695040888963407
		b[i] = byte(x >> 40)
	}
	return b
}

// seal appends the check sum to a string; the library's hash/crc32, which the
// program does not use, is the reference here.
func seal(b []byte) []byte {
	return binary.LittleEndian.AppendUint32(slices.Clone(b), crc32.ChecksumIEEE(b))
}

// wantBytes follows the definition of the bytes of a packet.
func wantBytes(p api.Packet) []byte {
	b := []byte{p.Kind, byte(p.Class)}
	for _, n := range []int{p.Number, p.Value} {
		b = append(b, binary.BigEndian.AppendUint64(nil, uint64(n))[3:]...)
	}
	return seal(slices.Concat(b, []byte{byte(len(p.Payload))}, p.Payload))
}

// dataSymbols are the data symbols of the nibbles from 0 to 15.
var dataSymbols = []byte{7, 11, 13, 14, 19, 21, 22, 25, 26, 28, 35, 37, 38, 41, 42, 44}

const (
	start = 49
	stop  = 50
	idle  = 52
	abort = 56
)

// wantData returns the data symbols of bytes.
func wantData(b []byte) []byte {
	var symbols []byte
	for _, x := range b {
		symbols = append(symbols, dataSymbols[x/16], dataSymbols[x%16])
	}
	return symbols
}

// framed returns the data symbols of bytes, between Start and Stop.
func framed(b []byte) []byte {
	return slices.Concat([]byte{start}, wantData(b), []byte{stop})
}

func same(p, q api.Packet) bool {
	return p.Kind == q.Kind && p.Class == q.Class && p.Number == q.Number && p.Value == q.Value && bytes.Equal(p.Payload, q.Payload)
}

func isZero(p api.Packet) bool {
	return same(p, api.Packet{})
}

// example is that of the chapter.
func example() api.Packet {
	return api.Packet{Kind: 2, Class: 1, Number: 258, Value: 3, Payload: []byte{9}}
}

// validPackets returns packets with each bound of what is valid, and without a visible pattern.
func validPackets() []api.Packet {
	all := []api.Packet{example()}
	for _, kind := range []byte{1, 2, 127, 128, 255} {
		all = append(all, api.Packet{Kind: kind})
	}
	for class := range api.MaxClasses {
		all = append(all, api.Packet{Kind: 1, Class: class})
	}
	for _, n := range []int{1, 255, 256, 65535, 65536, 1<<24 - 1, 1 << 24, 1<<32 - 1, 1 << 32, 0x0102030405, 0xfffefdfcfb, api.MaxNumber - 2, api.MaxNumber - 1} {
		all = append(all, api.Packet{Kind: 3, Number: n}, api.Packet{Kind: 4, Value: n})
		all = append(all, api.Packet{Kind: 5, Number: n, Value: api.MaxNumber - 1 - n})
	}
	for n := range api.MaxPayload + 1 {
		x := int(binary.BigEndian.Uint64(sample(8, n)) >> 1)
		all = append(all, api.Packet{
			Kind:    byte(1 + n*3),
			Class:   n % api.MaxClasses,
			Number:  x % api.MaxNumber,
			Value:   x >> 20 % api.MaxNumber,
			Payload: sample(n, n),
		})
	}
	zeros, ones := make([]byte, api.MaxPayload), bytes.Repeat([]byte{255}, api.MaxPayload)
	all = append(all, api.Packet{Kind: 1, Payload: zeros}, api.Packet{Kind: 1, Payload: []byte{}})
	return append(all, api.Packet{Kind: 255, Class: api.MaxClasses - 1, Number: api.MaxNumber - 1, Value: api.MaxNumber - 1, Payload: ones})
}

// invalidPackets returns packets that are beyond a bound, or several.
func invalidPackets() []api.Packet {
	ok := example()
	with := func(change func(p *api.Packet)) api.Packet {
		p := ok
		change(&p)
		return p
	}
	all := []api.Packet{
		{},
		{Class: -1, Number: -1, Value: -1},
		with(func(p *api.Packet) { p.Kind = 0 }),
		{Payload: make([]byte, api.MaxPayload+1)},
	}
	for _, class := range []int{-1, -2, -256, -255, math.MinInt, api.MaxClasses, api.MaxClasses + 1, 255, 256, 257, 1 << 32, math.MaxInt} {
		all = append(all, with(func(p *api.Packet) { p.Class = class }))
	}
	for _, n := range []int{-1, -2, -256, -api.MaxNumber, -api.MaxNumber + 1, math.MinInt, math.MinInt + 258, api.MaxNumber, api.MaxNumber + 1, api.MaxNumber + 258, 1 << 48, math.MaxInt} {
		all = append(all, with(func(p *api.Packet) { p.Number = n }), with(func(p *api.Packet) { p.Value = n }))
		all = append(all, with(func(p *api.Packet) { p.Number, p.Value = n, n }))
	}
	for _, n := range []int{api.MaxPayload + 1, api.MaxPayload + 2, 255, 256, 257, 256 + api.MaxPayload, 1 << 16, 1 << 20} {
		all = append(all, with(func(p *api.Packet) { p.Payload = make([]byte, n) }))
	}
	return all
}

// P4.1

func TestLimits(t *testing.T) {
	if MinBytes != 17 || MaxSymbols != 162 {
		t.Error(MinBytes, MaxSymbols)
	}
}

func TestValid(t *testing.T) {
	for _, p := range validPackets() {
		if !Valid(p) {
			t.Errorf("%v is not valid", p)
		}
	}
	for _, p := range invalidPackets() {
		if Valid(p) {
			t.Errorf("%v is valid", p)
		}
	}
	for kind := range 256 {
		if got := Valid(api.Packet{Kind: byte(kind)}); got != (kind != 0) {
			t.Errorf("Kind %d: %t", kind, got)
		}
	}
}

func TestEncodeExample(t *testing.T) {
	b, e := Encode(example())
	if e != api.OK || len(b) != 18 || !bytes.Equal(b[:14], []byte{2, 1, 0, 0, 0, 1, 2, 0, 0, 0, 0, 3, 1, 9}) {
		t.Error(b, e)
	}
	sum := crc32.ChecksumIEEE(b[:14])
	if !bytes.Equal(b[14:], []byte{byte(sum), byte(sum >> 8), byte(sum >> 16), byte(sum >> 24)}) {
		t.Errorf("%x does not end with the check sum %x", b, sum)
	}
	symbols, e := Symbols(example())
	if e != api.OK || len(symbols) != 38 || symbols[0] != start || symbols[37] != stop || !bytes.Equal(symbols[1:37], wantData(b)) {
		t.Error(symbols, e)
	}
	if !bytes.Equal(symbols[:9], []byte{start, 7, 13, 7, 11, 7, 7, 7, 7}) {
		t.Error(symbols)
	}
}

func TestEncode(t *testing.T) {
	for _, c := range []struct {
		p     api.Packet
		start []byte // the bytes before the check sum
	}{
		{api.Packet{Kind: 1}, []byte{1, 0, 0, 0, 0, 0, 0, 0, 0, 0, 0, 0, 0}},
		{api.Packet{Kind: 255, Class: 3}, []byte{255, 3, 0, 0, 0, 0, 0, 0, 0, 0, 0, 0, 0}},
		{api.Packet{Kind: 1, Number: 0x0102030405, Value: 0x060708090a}, []byte{1, 0, 1, 2, 3, 4, 5, 6, 7, 8, 9, 10, 0}},
		{api.Packet{Kind: 7, Number: api.MaxNumber - 1}, []byte{7, 0, 255, 255, 255, 255, 255, 0, 0, 0, 0, 0, 0}},
		{api.Packet{Kind: 7, Value: api.MaxNumber - 1}, []byte{7, 0, 0, 0, 0, 0, 0, 255, 255, 255, 255, 255, 0}},
		{api.Packet{Kind: 7, Class: 2, Payload: []byte{5, 0, 4}}, []byte{7, 2, 0, 0, 0, 0, 0, 0, 0, 0, 0, 0, 3, 5, 0, 4}},
	} {
		if b, e := Encode(c.p); e != api.OK || !bytes.Equal(b, seal(c.start)) {
			t.Errorf("Encode(%v) = %d, %d", c.p, b, e)
		}
	}
}

func TestEncodeAgreesWithDefinition(t *testing.T) {
	for _, p := range validPackets() {
		want := wantBytes(p)
		if b, e := Encode(p); e != api.OK || len(b) != MinBytes+len(p.Payload) || !bytes.Equal(b, want) {
			t.Errorf("Encode(%v) = %d, %d, not %d", p, b, e, want)
		}
		if s, e := Symbols(p); e != api.OK || len(s) != 2*len(want)+2 || len(s) > MaxSymbols+2 || !bytes.Equal(s, framed(want)) {
			t.Errorf("Symbols(%v) = %d, %d", p, s, e)
		}
	}
}

func TestLongestPacket(t *testing.T) {
	p := api.Packet{Kind: 1, Payload: make([]byte, api.MaxPayload)}
	if b, e := Encode(p); e != api.OK || len(b) != MinBytes+api.MaxPayload || b[12] != api.MaxPayload {
		t.Error(b, e)
	}
	if s, e := Symbols(p); e != api.OK || len(s) != MaxSymbols+2 {
		t.Error(s, e)
	}
}

func TestEncodeRefuses(t *testing.T) {
	for _, p := range invalidPackets() {
		if b, e := Encode(p); b != nil || e != api.ErrArg {
			t.Errorf("Encode(%v) = %d, %d", p, b, e)
		}
		if s, e := Symbols(p); s != nil || e != api.ErrArg {
			t.Errorf("Symbols(%v) = %d, %d", p, s, e)
		}
	}
}

// P4.2

func TestDecode(t *testing.T) {
	for _, p := range validPackets() {
		if got, e := Decode(wantBytes(p)); e != api.OK || !same(got, p) {
			t.Errorf("Decode = %v, %d, not %v", got, e, p)
		}
	}
	b := seal([]byte{2, 1, 0, 0, 0, 1, 2, 0, 0, 0, 0, 3, 1, 9})
	if p, e := Decode(b); e != api.OK || !same(p, example()) {
		t.Error(p, e)
	}
}

// changed returns a copy of b in which one byte has another value.
func changed(b []byte, at int, x byte) []byte {
	c := slices.Clone(b)
	c[at] = x
	return c
}

// plain returns the bytes before the check sum of a packet with a kind, a
// class, the length that its bytes tell, and a payload of n bytes.
func plain(kind, class, length byte, n int) []byte {
	return slices.Concat([]byte{kind, class}, sample(10, n), []byte{length}, sample(n, n+1))
}

// broken returns sealed bytes whose check sum is not right any more.
func broken(b []byte) []byte {
	c := seal(b)
	c[len(c)-1] ^= 1
	return c
}

func TestDecodeRefuses(t *testing.T) {
	whole := wantBytes(example())
	for i, c := range []struct {
		b []byte
		e api.Errno
	}{
		{nil, api.ErrEnd},
		{[]byte{}, api.ErrEnd},
		{whole[:1], api.ErrEnd},
		{whole[:12], api.ErrEnd},
		{whole[:13], api.ErrEnd},
		{whole[:16], api.ErrEnd},
		// too few bytes, and all else is wrong, or right
		{make([]byte, 16), api.ErrEnd},
		{bytes.Repeat([]byte{255}, 16), api.ErrEnd},
		{seal(plain(1, 0, 0, 0)[:12]), api.ErrEnd},
		{seal(plain(0, 9, 99, 0)[:12]), api.ErrEnd},
		{seal(nil), api.ErrEnd},
		// a byte is missing or added, before or behind the seal
		{whole[:17], api.ErrForm},
		{append(slices.Clone(whole), 0), api.ErrForm},
		{seal(plain(1, 0, 1, 0)), api.ErrForm},
		{seal(plain(1, 0, 0, 1)), api.ErrForm},
		{seal(plain(1, 0, 5, 4)), api.ErrForm},
		{seal(plain(1, 0, 3, 4)), api.ErrForm},
		// the number fits, but is too great
		{seal(plain(1, 0, 65, 65)), api.ErrForm},
		{seal(plain(1, 0, 66, 66)), api.ErrForm},
		{seal(plain(1, 0, 255, 255)), api.ErrForm},
		{seal(plain(1, 0, 128, 128)), api.ErrForm},
		// it fits only modulo 256
		{seal(plain(1, 0, 0, 256)), api.ErrForm},
		{seal(plain(1, 0, 64, 320)), api.ErrForm},
		{seal(plain(1, 0, 1, 65)), api.ErrForm},
		{seal(plain(1, 0, 64, 65)), api.ErrForm},
		// a wrong number, a wrong check sum, and an invalid packet
		{broken(plain(1, 0, 1, 2)), api.ErrForm},
		{broken(plain(1, 0, 65, 65)), api.ErrForm},
		{seal(plain(0, 0, 1, 2)), api.ErrForm},
		{seal(plain(1, 4, 65, 65)), api.ErrForm},
		{broken(plain(0, 4, 1, 2)), api.ErrForm},
		{bytes.Repeat([]byte{255}, 17), api.ErrForm},
		// a wrong check sum
		{broken(plain(1, 0, 0, 0)), api.ErrSum},
		{broken(plain(1, 3, 64, 64)), api.ErrSum},
		{make([]byte, 17), api.ErrSum},
		{append(plain(1, 0, 0, 0), 0, 0, 0, 0), api.ErrSum},
		{changed(whole, 0, 3), api.ErrSum},
		{changed(whole, 13, 8), api.ErrSum},
		{changed(whole, 14, whole[14]+1), api.ErrSum},
		{changed(whole, 17, whole[17]+1), api.ErrSum},
		// a wrong check sum, and an invalid packet
		{broken(plain(0, 0, 0, 0)), api.ErrSum},
		{broken(plain(1, 4, 3, 3)), api.ErrSum},
		{broken(plain(0, 255, 64, 64)), api.ErrSum},
		// an invalid packet
		{seal(plain(0, 0, 0, 0)), api.ErrArg},
		{seal(plain(0, 3, 64, 64)), api.ErrArg},
		{seal(make([]byte, 13)), api.ErrArg},
		{seal(plain(1, 4, 0, 0)), api.ErrArg},
		{seal(plain(1, 255, 7, 7)), api.ErrArg},
		{seal(plain(255, 128, 7, 7)), api.ErrArg},
		{seal(plain(0, 4, 7, 7)), api.ErrArg},
	} {
		if p, e := Decode(c.b); e != c.e || !isZero(p) || p.Payload != nil {
			t.Errorf("%d: Decode(%d) = %v, %d, not %d", i, c.b, p, e, c.e)
		}
	}
}

func TestDecodeEachLength(t *testing.T) {
	for n := range 100 {
		for length := range 256 {
			want := api.OK
			if length != n || n > api.MaxPayload {
				want = api.ErrForm
			}
			b := plain(1, 2, byte(length), n)
			if p, e := Decode(seal(b)); e != want || e == api.OK && !bytes.Equal(wantBytes(p), seal(b)) {
				t.Fatalf("%d bytes of payload, %d told: %v, %d", n, length, p, e)
			}
			if want == api.OK {
				want = api.ErrSum
			}
			if p, e := Decode(broken(b)); e != want || !isZero(p) {
				t.Fatalf("%d bytes of payload, %d told, a wrong check sum: %v, %d", n, length, p, e)
			}
		}
	}
}

func TestDecodeEachKindAndClass(t *testing.T) {
	for kind := range 256 {
		for class := range 256 {
			want := api.OK
			if kind == 0 || class > 3 {
				want = api.ErrArg
			}
			p, e := Decode(seal(plain(byte(kind), byte(class), 2, 2)))
			if e != want || e == api.OK && (int(p.Kind) != kind || p.Class != class) || e != api.OK && !isZero(p) {
				t.Fatalf("Kind %d, Class %d: %v, %d", kind, class, p, e)
			}
		}
	}
}

// P4.4

func TestDecodeIsInverse(t *testing.T) {
	for _, p := range validPackets() {
		b, e := Encode(p)
		if e != api.OK {
			t.Fatal(p, e)
		}
		q, e := Decode(b)
		if e != api.OK || !same(p, q) {
			t.Errorf("%v becomes %v, %d", p, q, e)
		}
		if c, e := Encode(q); e != api.OK || !bytes.Equal(b, c) {
			t.Errorf("%d becomes %d, %d", b, c, e)
		}
	}
}

// flip returns a copy of b in which the bits at the positions are inverted.
func flip(b []byte, positions ...int) []byte {
	c := slices.Clone(b)
	for _, p := range positions {
		c[p/8] ^= 1 << (p % 8)
	}
	return c
}

func refused(b []byte) bool {
	p, e := Decode(b)
	return isZero(p) && (e == api.ErrSum || e == api.ErrForm)
}

func TestOneTwoThreeBitsAreRefused(t *testing.T) {
	b := wantBytes(api.Packet{Kind: 6, Class: 2, Number: 1 << 39, Value: 77})
	for p := range 8 * len(b) {
		if !refused(flip(b, p)) {
			t.Fatal(p)
		}
		for q := range p {
			if !refused(flip(b, p, q)) {
				t.Fatal(p, q)
			}
			for r := range q {
				if !refused(flip(b, p, q, r)) {
					t.Fatal(p, q, r)
				}
			}
		}
	}
}

func TestBitsOfLongestPacketAreRefused(t *testing.T) {
	b := wantBytes(api.Packet{Kind: 200, Class: 1, Number: 1 << 20, Value: 5, Payload: sample(api.MaxPayload, 1)})
	count := 8 * len(b)
	for p := range count {
		if !refused(flip(b, p)) {
			t.Fatal(p)
		}
		for q := range p {
			third := (p*q + p) % count
			if !refused(flip(b, p, q)) || third != p && third != q && !refused(flip(b, p, q, third)) {
				t.Fatal(p, q, third)
			}
		}
	}
}

// burst returns a copy of b that is changed by the bits of pattern, from the position first on.
func burst(b []byte, first int, pattern uint32) []byte {
	c := slices.Clone(b)
	for k := range 32 {
		if pattern>>k&1 != 0 {
			c[(first+k)/8] ^= 1 << ((first + k) % 8)
		}
	}
	return c
}

func TestBurstsAreRefused(t *testing.T) {
	fillings := []uint32{0, math.MaxUint32, 0x55555555, 0xaaaaaaaa, 0xedb88320, 0x04c11db7, 0x12345678}
	for _, n := range []int{0, 1, 30, api.MaxPayload} {
		b := wantBytes(api.Packet{Kind: 9, Class: 3, Number: 12345, Value: 678, Payload: sample(n, n)})
		for length := 1; length <= 32; length++ {
			for first := range 8*len(b) - length + 1 {
				for _, filling := range fillings {
					pattern := 1 | 1<<(length-1) | filling&(1<<(length-1)-1)
					if !refused(burst(b, first, pattern)) {
						t.Fatalf("payload of %d bytes, changed by %x from position %d on", n, pattern, first)
					}
				}
			}
		}
	}
}

// P1, and the rules for arguments and results

func TestDecodeOfAnyBytes(t *testing.T) {
	for n := range 200 {
		for seed := range 50 {
			b := sample(n, seed)
			if n > 12 && seed%2 == 0 {
				b[12] = byte(n - 17)
			}
			p, e := Decode(b)
			if e == api.OK && !bytes.Equal(wantBytes(p), b) || e != api.OK && !isZero(p) {
				t.Fatalf("Decode(%d) = %v, %d", b, p, e)
			}
		}
	}
	if p, e := Decode(make([]byte, 1<<20)); e != api.ErrForm || !isZero(p) {
		t.Error(p, e)
	}
}

// room returns a slice of the first elements of a longer one, and the longer one.
func room(b []byte) ([]byte, []byte) {
	whole := slices.Concat(b, bytes.Repeat([]byte{0xa5}, 200))
	return whole[:len(b)], whole
}

// spoil overwrites a slice and the room behind it.
func spoil(b []byte) {
	b = b[:cap(b)]
	for i := range b {
		b[i] ^= 0x5a
	}
}

func TestPayloadStays(t *testing.T) {
	for _, p := range append(validPackets(), invalidPackets()...) {
		part, whole := room(p.Payload)
		before := slices.Clone(whole)
		p.Payload = part
		Valid(p)
		b, _ := Encode(p)
		s, _ := Symbols(p)
		keptBytes, keptSymbols := slices.Clone(b), slices.Clone(s)
		if !bytes.Equal(whole, before) {
			t.Fatalf("the payload of %v, or what lies behind it, was changed", p)
		}
		_, _ = append(b, 1, 2, 3), append(s, 1, 2, 3)
		spoil(b)
		spoil(s)
		if !bytes.Equal(whole, before) {
			t.Fatalf("changing a result changes the payload of %v", p)
		}
		b, _ = Encode(p)
		s, _ = Symbols(p)
		spoil(part)
		if !bytes.Equal(b, keptBytes) || !bytes.Equal(s, keptSymbols) {
			t.Fatalf("changing the payload or an earlier result changes a result")
		}
	}
}

func TestDecodedBytesStay(t *testing.T) {
	for _, p := range validPackets() {
		for _, given := range [][]byte{wantBytes(p), broken(wantBytes(p)), wantBytes(p)[:15]} {
			part, whole := room(given)
			before := slices.Clone(whole)
			got, e := Decode(part)
			want := slices.Clone(got.Payload)
			_ = append(got.Payload, 1, 2, 3)
			spoil(got.Payload)
			if !bytes.Equal(whole, before) {
				t.Fatalf("Decode of %v changes its argument, or the result shares its memory", p)
			}
			again, f := Decode(part)
			spoil(part)
			if !bytes.Equal(again.Payload, want) || e != f {
				t.Fatalf("changing the argument or an earlier result changes the payload of %v", p)
			}
		}
	}
}
