package frame_test

import (
	"bytes"
	"slices"
	"testing"

	"fairlink/api"
	. "fairlink/frame"
)

// push gives a scanner symbols, one after the other, and returns the packets that were found.
func push(s *Scanner, symbols ...byte) []api.Packet {
	var found []api.Packet
	for _, x := range symbols {
		p, ok := s.Push(x)
		if ok {
			found = append(found, p)
		} else if !isZero(p) || p.Payload != nil {
			panic("a packet together with false")
		}
	}
	return found
}

func symbolsOf(p api.Packet) []byte {
	return framed(wantBytes(p))
}

// packet returns a small packet, another one for each number.
func packet(number int) api.Packet {
	return api.Packet{Kind: 5, Class: number % 4, Number: number, Value: 2 * number, Payload: sample(number%7, number)}
}

// wantScan tells what a scanner finds and discards, from the whole list: what
// begins with a Start ends with the first symbol behind it that is not a data
// symbol, or with the data symbol that is one too many.
func wantScan(symbols []byte) (found []api.Packet, bad int) {
	for i, x := range symbols {
		if x != start {
			continue
		}
		rest := symbols[i+1:]
		n := slices.IndexFunc(rest, func(s byte) bool { return !slices.Contains(dataSymbols, s) })
		if n < 0 && len(rest) <= 162 {
			continue // the packet has not ended yet
		}
		if n >= 0 && n <= 162 && rest[n] == stop {
			if p, ok := readData(rest[:n]); ok {
				found = append(found, p)
				continue
			}
		}
		bad++
	}
	return found, bad
}

// readData returns the packet with these data symbols.
func readData(symbols []byte) (api.Packet, bool) {
	var b []byte
	for i := 0; i+1 < len(symbols); i += 2 {
		b = append(b, byte(16*slices.Index(dataSymbols, symbols[i])+slices.Index(dataSymbols, symbols[i+1])))
	}
	if len(symbols)%2 != 0 || len(b) < 17 || int(b[12]) != len(b)-17 || !bytes.Equal(seal(b[:len(b)-4]), b) {
		return api.Packet{}, false
	}
	number := func(b []byte) int {
		return int(b[0])<<32 | int(b[1])<<24 | int(b[2])<<16 | int(b[3])<<8 | int(b[4])
	}
	p := api.Packet{Kind: b[0], Class: int(b[1]), Number: number(b[2:]), Value: number(b[7:]), Payload: b[13 : len(b)-4]}
	return p, p.Kind != 0 && p.Class < 4 && len(p.Payload) <= 64
}

func checkScan(t *testing.T, symbols []byte, found []api.Packet, bad int) {
	t.Helper()
	s := New()
	got := push(s, symbols...)
	if !slices.EqualFunc(got, found, same) || s.Bad() != bad {
		t.Errorf("%d: found %v, discarded %d, not %v, %d", symbols, got, s.Bad(), found, bad)
	}
}

// P4.3

func TestNewScanner(t *testing.T) {
	s := New()
	if s == nil || s.Bad() != 0 {
		t.Fatal(s)
	}
	// it is outside: neither data symbols nor a Stop change that
	p := packet(1)
	if got := push(s, symbolsOf(p)[1:]...); got != nil || s.Bad() != 0 {
		t.Error(got, s.Bad())
	}
	if got := push(s, symbolsOf(p)...); len(got) != 1 || !same(got[0], p) || s.Bad() != 0 {
		t.Error(got, s.Bad())
	}
}

func TestPacketIsFoundWithItsStop(t *testing.T) {
	for _, p := range validPackets() {
		s := New()
		symbols := symbolsOf(p)
		last := len(symbols) - 1
		for i, x := range symbols {
			got, ok := s.Push(x)
			if ok != (i == last) || ok && !same(got, p) || !ok && !isZero(got) || s.Bad() != 0 {
				t.Fatalf("%v, symbol %d: %v, %t, discarded %d", p, i, got, ok, s.Bad())
			}
		}
		// the scanner is outside now
		if got := push(s, symbols[1:]...); got != nil || s.Bad() != 0 {
			t.Fatal(got, s.Bad())
		}
	}
}

func TestOutside(t *testing.T) {
	p := packet(6)
	before := map[string][]byte{
		"new":                nil,
		"behind a packet":    symbolsOf(packet(3)),
		"behind a discarded": {start, 7, 7, abort},
	}
	for name, first := range before {
		for x := range 256 {
			if x == start {
				continue
			}
			s := New()
			push(s, first...)
			bad := s.Bad()
			for range 200 {
				if got, ok := s.Push(byte(x)); ok || !isZero(got) || s.Bad() != bad {
					t.Fatalf("%s, symbol %d: %v, %t, discarded %d", name, x, got, ok, s.Bad()-bad)
				}
			}
			// the scanner is still outside, and not inside
			if got := push(s, symbolsOf(p)[1:]...); got != nil || s.Bad() != bad {
				t.Fatalf("%s, behind the symbol %d: %v, discarded %d", name, x, got, s.Bad()-bad)
			}
			if got := push(s, symbolsOf(p)...); len(got) != 1 || !same(got[0], p) || s.Bad() != bad {
				t.Fatalf("%s, behind the symbol %d: %v, discarded %d", name, x, got, s.Bad()-bad)
			}
		}
	}
}

func TestInsideOtherSymbolsDiscard(t *testing.T) {
	p := packet(5)
	whole := symbolsOf(p)
	for x := range 256 {
		if slices.Contains(dataSymbols, byte(x)) || x == start || x == stop {
			continue
		}
		for _, n := range []int{1, 2, 3, 20, len(whole) - 2, len(whole) - 1} {
			s := New()
			push(s, whole[:n]...)
			if got, ok := s.Push(byte(x)); ok || !isZero(got) || s.Bad() != 1 {
				t.Fatalf("symbol %d behind %d symbols: %v, %t, discarded %d", x, n, got, ok, s.Bad())
			}
			// the scanner is outside: what is left of the packet is not found nor discarded
			if got := push(s, whole[n:]...); got != nil || s.Bad() != 1 {
				t.Fatalf("symbol %d behind %d symbols: %v, discarded %d", x, n, got, s.Bad())
			}
			if got := push(s, byte(x), stop, 7); got != nil || s.Bad() != 1 {
				t.Fatalf("symbol %d behind %d symbols, again: %v, discarded %d", x, n, got, s.Bad())
			}
			if got := push(s, whole...); len(got) != 1 || !same(got[0], p) || s.Bad() != 1 {
				t.Fatalf("symbol %d behind %d symbols: %v, discarded %d", x, n, got, s.Bad())
			}
		}
	}
}

func TestInsideStartBeginsAnother(t *testing.T) {
	p := packet(4)
	whole := symbolsOf(p)
	for n := 1; n < len(whole); n++ {
		checkScan(t, slices.Concat(whole[:n], whole), []api.Packet{p}, 1)
	}
	// what came before the Start is not a part of the packet
	checkScan(t, slices.Insert(slices.Clone(whole), 1, start), []api.Packet{p}, 1)
	for n := 2; n < len(whole); n++ {
		checkScan(t, slices.Insert(slices.Clone(whole), n, start), nil, 2)
	}
	s := New()
	for i := range 50 {
		if got, ok := s.Push(start); ok || !isZero(got) || s.Bad() != i {
			t.Fatal(i, got, ok, s.Bad())
		}
	}
	// it is inside of the last one
	if got := push(s, whole[1:]...); len(got) != 1 || !same(got[0], p) || s.Bad() != 49 {
		t.Error(got, s.Bad())
	}
}

func TestInsideStopEnds(t *testing.T) {
	p := packet(6)
	b := wantBytes(p)
	odd := wantData(b)
	for name, data := range map[string][]byte{
		"no data symbols":           {},
		"one data symbol":           {7},
		"two data symbols":          {7, 7},
		"too few bytes":             wantData(b[:16]),
		"sealed, but too few bytes": wantData(seal(b[:12])),
		"one symbol less":           odd[:len(odd)-1],
		"one symbol more":           append(slices.Clone(odd), 7),
		"no first symbol":           odd[1:],
		"one byte less":             wantData(b[:len(b)-1]),
		"one byte more":             wantData(append(slices.Clone(b), 0)),
		"a wrong number of bytes":   wantData(seal(plain(1, 0, 4, 3))),
		"a wrong check sum":         wantData(broken(plain(1, 0, 3, 3))),
		"the kind 0":                wantData(seal(plain(0, 0, 3, 3))),
		"the class 4":               wantData(seal(plain(1, 4, 3, 3))),
		"nibbles exchanged":         exchanged(odd),
	} {
		s := New()
		if got := push(s, slices.Concat([]byte{start}, data)...); got != nil || s.Bad() != 0 {
			t.Errorf("%s: %v, discarded %d before the Stop", name, got, s.Bad())
		}
		if got, ok := s.Push(stop); ok || !isZero(got) || s.Bad() != 1 {
			t.Errorf("%s: %v, %t, discarded %d", name, got, ok, s.Bad())
		}
		// the scanner is outside, and has forgotten all of it
		if got := push(s, slices.Concat([]byte{stop}, symbolsOf(p)[1:])...); got != nil || s.Bad() != 1 {
			t.Errorf("%s: %v, discarded %d", name, got, s.Bad())
		}
		if got := push(s, symbolsOf(p)...); len(got) != 1 || !same(got[0], p) || s.Bad() != 1 {
			t.Errorf("%s: %v, discarded %d", name, got, s.Bad())
		}
	}
}

// exchanged returns the symbols with the halves of each byte exchanged.
func exchanged(symbols []byte) []byte {
	c := slices.Clone(symbols)
	for i := 0; i+1 < len(c); i += 2 {
		c[i], c[i+1] = c[i+1], c[i]
	}
	return c
}

func TestTooManyDataSymbols(t *testing.T) {
	p := packet(2)
	for _, x := range dataSymbols {
		s := New()
		s.Push(start)
		for n := 1; n <= 1000; n++ {
			got, ok := s.Push(x)
			want := 0
			if n > 162 {
				want = 1
			}
			if ok || !isZero(got) || s.Bad() != want {
				t.Fatalf("data symbol %d: %v, %t, discarded %d", n, got, ok, s.Bad())
			}
		}
		if got := push(s, stop); got != nil || s.Bad() != 1 {
			t.Fatal(got, s.Bad())
		}
		if got := push(s, symbolsOf(p)...); len(got) != 1 || !same(got[0], p) || s.Bad() != 1 {
			t.Fatal(got, s.Bad())
		}
	}
}

func TestGreatestNumberOfDataSymbols(t *testing.T) {
	p := api.Packet{Kind: 1, Class: 3, Number: 1, Payload: sample(api.MaxPayload, 1)}
	longest := symbolsOf(p)
	checkScan(t, longest, []api.Packet{p}, 0)
	// as many data symbols, but no packet: it counts when it ends
	full := slices.Concat([]byte{start}, bytes.Repeat([]byte{7}, 162))
	checkScan(t, full, nil, 0)
	for _, x := range []byte{start, stop, idle, abort, 0, 7, 255} {
		checkScan(t, append(slices.Clone(full), x), nil, 1)
	}
	// one more than the longest packet has, at its beginning, inside, and at its end
	for _, at := range []int{1, 80, 163} {
		checkScan(t, slices.Insert(slices.Clone(longest), at, 7), nil, 1)
	}
	// a sealed string that is too long for a packet: it is discarded before its end
	checkScan(t, framed(seal(plain(1, 0, 65, 65))), nil, 1)
	// the count begins anew with each packet
	checkScan(t, slices.Concat(full, longest, longest, full, []byte{idle}, longest), []api.Packet{p, p, p}, 2)
}

func TestNilScanner(t *testing.T) {
	var none *Scanner
	for _, x := range slices.Concat(symbolsOf(packet(1)), []byte{0, start, start, idle, abort, 255}) {
		if p, ok := none.Push(x); ok || !isZero(p) || p.Payload != nil || none.Bad() != 0 {
			t.Fatal(x, p, ok, none.Bad())
		}
	}
}

func TestBadChangesNothing(t *testing.T) {
	s := New()
	p := packet(3)
	var found []api.Packet
	for i, x := range slices.Concat(symbolsOf(p), []byte{start, start}, symbolsOf(p)[1:]) {
		found = append(found, push(s, x)...)
		if bad := s.Bad(); s.Bad() != bad {
			t.Fatal(i, bad, s.Bad())
		}
	}
	if len(found) != 2 || s.Bad() != 1 {
		t.Error(found, s.Bad())
	}
}

func TestScannersAreIndependent(t *testing.T) {
	p, q := packet(3), packet(10)
	a, b := New(), New()
	x, y := symbolsOf(p), slices.Concat([]byte{start, 7}, symbolsOf(q))
	var gotA, gotB []api.Packet
	for i := range max(len(x), len(y)) {
		gotA = append(gotA, push(a, x[min(i, len(x)):min(i+1, len(x))]...)...)
		gotB = append(gotB, push(b, y[min(i, len(y)):min(i+1, len(y))]...)...)
	}
	if len(gotA) != 1 || !same(gotA[0], p) || a.Bad() != 0 || len(gotB) != 1 || !same(gotB[0], q) || b.Bad() != 1 {
		t.Error(gotA, a.Bad(), gotB, b.Bad())
	}
}

func TestFoundPacketsKeepTheirPayload(t *testing.T) {
	s := New()
	all := validPackets()
	var found []api.Packet
	for _, p := range all {
		found = append(found, push(s, symbolsOf(p)...)...)
		push(s, slices.Concat([]byte{start}, bytes.Repeat([]byte{44}, 170))...)
	}
	if !slices.EqualFunc(found, all, same) {
		t.Error("the scanner changed packets that it had returned")
	}
}

func TestFoundPacketsAreNewMemory(t *testing.T) {
	s := New()
	p := packet(6)
	for i := range 20 {
		// a packet is changed while the next one is under construction
		symbols := symbolsOf(p)
		got := push(s, symbols...)
		push(s, symbols[:30]...)
		for _, q := range got {
			_ = append(q.Payload, 1, 2, 3, 4, 5, 6, 7, 8)
			spoil(q.Payload)
		}
		if got = push(s, symbols[30:]...); len(got) != 1 || !same(got[0], p) || s.Bad() != 0 {
			t.Fatal(i, got, s.Bad())
		}
	}
}

// P4.4

func TestScannerFindsPacketsInOrder(t *testing.T) {
	all := validPackets()
	between := [][]byte{
		nil,
		{idle},
		bytes.Repeat([]byte{idle}, 300),
		{stop},
		{abort, stop, 7},
		{0, 63, 64, 128, 255},
		dataSymbols,
		symbolsOf(packet(1))[2:],
		{start},
		{start, stop},
		{start, start, start},
		{start, 7, idle, 7, stop},
		{start, 7, 200},
		symbolsOf(packet(2))[:20],
		symbolsOf(packet(3))[:35],
		slices.Concat([]byte{start}, bytes.Repeat([]byte{11}, 500)),
	}
	var symbols []byte
	for i, p := range all {
		symbols = slices.Concat(symbols, between[i%len(between)], between[i/len(between)%len(between)], symbolsOf(p))
	}
	found, bad := wantScan(symbols)
	if !slices.EqualFunc(found, all, same) || bad == 0 {
		t.Fatal(len(found), bad)
	}
	checkScan(t, symbols, all, bad)
}

func TestScannerFindsItsSymbols(t *testing.T) {
	s := New()
	for _, p := range validPackets() {
		symbols, e := Symbols(p)
		if got := push(s, symbols...); e != api.OK || len(got) != 1 || !same(got[0], p) || s.Bad() != 0 {
			t.Fatalf("%v becomes %v, discarded %d", p, got, s.Bad())
		}
	}
}

func TestScannerAgreesWithDefinition(t *testing.T) {
	for seed := range 3000 {
		var symbols []byte
		for i, x := range sample(12, seed) {
			whole := symbolsOf(packet(int(x) + i))
			at := int(x) * 7 % len(whole)
			switch x % 11 {
			case 0, 1, 2:
				symbols = append(symbols, whole...)
			case 3:
				symbols = append(symbols, whole[:at]...)
			case 4:
				symbols = append(symbols, whole[at:]...)
			case 5:
				symbols = append(symbols, slices.Delete(whole, at, at+1)...)
			case 6:
				symbols = append(symbols, slices.Insert(whole, at, x)...)
			case 7:
				whole[at] = dataSymbols[x%16]
				symbols = append(symbols, whole...)
			case 8:
				symbols = append(symbols, sample(int(x)%20, i)...)
			case 9:
				symbols = append(symbols, start, stop, start, idle)
			case 10:
				symbols = append(symbols, bytes.Repeat([]byte{dataSymbols[x%16]}, 150)...)
			}
		}
		found, bad := wantScan(symbols)
		checkScan(t, symbols, found, bad)
	}
}

func TestInvertedBitOfSymbols(t *testing.T) {
	next := packet(8)
	for _, p := range []api.Packet{{Kind: 1}, example(), packet(6), {Kind: 255, Class: 3, Payload: sample(api.MaxPayload, 2)}} {
		whole, e := Symbols(p)
		if e != api.OK {
			t.Fatal(p, e)
		}
		for i := range whole {
			for bit := range 8 {
				bad := 1
				if i == 0 {
					bad = 0 // no packet begins
				}
				damaged := changed(whole, i, whole[i]^1<<bit)
				checkScan(t, slices.Concat([]byte{idle}, damaged, symbolsOf(next)), []api.Packet{next}, bad)
				// a damaged Start does not make it a part of the packet before, which has not ended
				checkScan(t, slices.Concat([]byte{start, 7}, damaged), nil, bad+1)
			}
		}
	}
}

func TestDamagedBytesAreNotFound(t *testing.T) {
	b := wantBytes(example())
	s := New()
	bad := 0
	damaged := func(c []byte) {
		bad++
		if got := push(s, framed(c)...); got != nil || s.Bad() != bad {
			t.Fatalf("%d: %v, discarded %d, not %d", c, got, s.Bad(), bad)
		}
	}
	count := 8 * len(b)
	for p := range count {
		damaged(flip(b, p))
		for q := range p {
			damaged(flip(b, p, q))
			if r := (p*q + p) % count; r != p && r != q {
				damaged(flip(b, p, q, r))
			}
		}
	}
	for length := 1; length <= 32; length++ {
		for first := range count - length + 1 {
			damaged(burst(b, first, 1|1<<(length-1)))
			damaged(burst(b, first, 1<<length-1))
		}
	}
	if got := push(s, framed(b)...); len(got) != 1 || !same(got[0], example()) || s.Bad() != bad {
		t.Error(got, s.Bad())
	}
}

// P1

func TestEveryThreeSymbols(t *testing.T) {
	for _, inside := range [][]byte{nil, {start}} {
		for x := range 256 {
			for y := range 256 {
				symbols := slices.Concat(inside, []byte{byte(x), byte(y), stop})
				found, bad := wantScan(symbols)
				checkScan(t, symbols, found, bad)
			}
		}
	}
}

func TestLongStream(t *testing.T) {
	s := New()
	p := packet(6)
	stream := slices.Concat(symbolsOf(p), []byte{start, 7}, symbolsOf(p), bytes.Repeat([]byte{idle, 11}, 50))
	for i := range 5000 {
		if got := push(s, stream...); len(got) != 2 || !same(got[0], p) || !same(got[1], p) || s.Bad() != i+1 {
			t.Fatal(i, got, s.Bad())
		}
	}
}
