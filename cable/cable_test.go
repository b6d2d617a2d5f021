package cable_test

import (
	"bytes"
	"fmt"
	"math"
	"slices"
	"testing"

	"fairlink/api"
	. "fairlink/cable"
)

// sample returns a string of n bytes without a visible pattern, another one for each seed.
func sample(n, seed int) []byte {
	b := make([]byte, n)
	x := uint64(seed)*2654435761 + 12345
	for i := range b {
		x = x*6364136223846793005 + 1442695040888963407
		b[i] = byte(x >> 40)
	}
	return b
}

func newCable(t *testing.T, delay int, faults ...api.Fault) *Cable {
	t.Helper()
	c, e := New(delay, faults)
	if e != api.OK || c == nil {
		t.Fatal(delay, faults, e)
	}
	return c
}

// send sends strings that are not refused.
func send(t *testing.T, c *Cable, list ...string) {
	t.Helper()
	for _, s := range list {
		if e := c.Send([]byte(s)); e != api.OK {
			t.Fatalf("Send(%q): %d", s, e)
		}
	}
}

// checkTick calls Tick, in which exactly these strings arrive.
func checkTick(t *testing.T, c *Cable, want ...string) {
	t.Helper()
	if got := c.Tick(); !slices.EqualFunc(got, want, func(b []byte, s string) bool { return string(b) == s }) {
		t.Fatalf("%q arrived, not %q", got, want)
	}
}

func checkState(t *testing.T, c *Cable, up bool, flying, lost int) {
	t.Helper()
	if c.Up() != up || c.Flying() != flying || c.Lost() != lost {
		t.Fatalf("up %t, flying %d, lost %d, not %t, %d, %d", c.Up(), c.Flying(), c.Lost(), up, flying, lost)
	}
}

// numbered returns n strings, from that with the number first.
func numbered(first, n int) []string {
	var list []string
	for i := range n {
		list = append(list, fmt.Sprint(first+i))
	}
	return list
}

// wantFlip follows the definition of Flip: the symbols are written as a row of bits.
func wantFlip(symbols []byte, arg int) []byte {
	var row []byte
	for _, s := range symbols {
		for k := range 6 {
			row = append(row, s>>k&1)
		}
	}
	if len(row) > 0 {
		row[arg%len(row)] = 1 - row[arg%len(row)]
	}
	want := slices.Clone(symbols)
	for i := range want {
		want[i] &= 0xc0 // beyond the six bits of a symbol
		for k := range 6 {
			want[i] += row[6*i+k] << k
		}
	}
	return want
}

// model follows the definitions with a calendar: what arrives in which call of Tick.
type model struct {
	delay        int
	faults       map[int]api.Fault
	down         bool
	ticks, sends int
	due          map[int][]string
	flying, lost int
}

func newModel(delay int, faults []api.Fault) *model {
	m := &model{delay: delay, faults: map[int]api.Fault{}, due: map[int][]string{}}
	for _, f := range faults {
		m.faults[f.At] = f
	}
	return m
}

func (m *model) send(symbols []byte) api.Errno {
	f := m.faults[m.sends]
	m.sends++
	list := []string{string(symbols)}
	switch f.Kind {
	case api.Drop:
		list = nil
	case api.Flip:
		list = []string{string(wantFlip(symbols, f.Arg))}
	case api.Double:
		list = append(list, list[0])
	}
	if m.down || list == nil {
		m.lost++
		return api.OK
	}
	if m.flying+len(list) > 64 {
		m.lost++
		return api.ErrFull
	}
	k := m.ticks + 1
	m.due[k+m.delay-1] = append(m.due[k+m.delay-1], list...)
	m.flying += len(list)
	return api.OK
}

func (m *model) tick() []string {
	m.ticks++
	arrived := m.due[m.ticks]
	delete(m.due, m.ticks)
	m.flying -= len(arrived)
	return arrived
}

func (m *model) cut() {
	m.down = true
	m.lost += m.flying
	m.flying = 0
	clear(m.due)
}

// P5.1

func TestDelays(t *testing.T) {
	if MaxDelay != 100 || MaxFlying != 64 {
		t.Fatal(MaxDelay, MaxFlying)
	}
	for _, delay := range []int{math.MinInt, -100, -1, 0, 101, 102, 1 << 32, 1<<32 + 1, math.MaxInt} {
		if c, e := New(delay, nil); c != nil || e != api.ErrRange {
			t.Error(delay, c, e)
		}
	}
	for delay := 1; delay <= 100; delay++ {
		c := newCable(t, delay)
		checkState(t, c, true, 0, 0)
		checkTick(t, c)
		checkState(t, c, true, 0, 0)
	}
}

func invalidFaults() [][]api.Fault {
	return [][]api.Fault{
		{{At: -1, Kind: api.Drop}},
		{{At: math.MinInt, Kind: api.Flip}},
		{{At: -2, Kind: api.Drop}, {At: -1, Kind: api.Drop}},
		{{At: -1, Kind: api.Drop}, {At: 0, Kind: api.Drop}},
		{{At: 0, Kind: api.Drop}, {At: 0, Kind: api.Drop}},
		{{At: 7, Kind: api.Drop}, {At: 7, Kind: api.Flip}},
		{{At: 1, Kind: api.Double}, {At: 0, Kind: api.Double}},
		{{At: 0, Kind: api.Drop}, {At: 5, Kind: api.Drop}, {At: 5, Kind: api.Drop}, {At: 6, Kind: api.Drop}},
		{{At: 0, Kind: api.Drop}, {At: 5, Kind: api.Drop}, {At: 4, Kind: api.Drop}},
		{{At: 0, Kind: api.Drop}, {At: math.MaxInt, Kind: api.Drop}, {At: math.MinInt, Kind: api.Drop}},
		{{}},
		{{At: 0, Kind: 0}},
		{{At: 0, Kind: 4}},
		{{At: 0, Kind: 5}},
		{{At: 0, Kind: -1}},
		{{At: 0, Kind: -3}},
		{{At: 0, Kind: 257}},
		{{At: 0, Kind: math.MaxInt}},
		{{At: 0, Kind: math.MinInt}},
		{{At: 0, Kind: api.Drop}, {At: 1, Kind: 4}},
		{{At: 0, Kind: 0}, {At: 1, Kind: api.Drop}},
		{{At: 0, Kind: api.Drop, Arg: -1}},
		{{At: 0, Kind: api.Flip, Arg: -1}},
		{{At: 0, Kind: api.Double, Arg: -1}},
		{{At: 0, Kind: api.Flip, Arg: math.MinInt}},
		{{At: 0, Kind: api.Flip}, {At: 1, Kind: api.Flip, Arg: -1}, {At: 2, Kind: api.Flip}},
	}
}

func TestInvalidFaults(t *testing.T) {
	for _, faults := range invalidFaults() {
		for _, delay := range []int{1, 100} {
			if c, e := New(delay, faults); c != nil || e != api.ErrArg {
				t.Error(delay, faults, c, e)
			}
		}
		// the delay is checked first
		for _, delay := range []int{0, 101} {
			if c, e := New(delay, faults); c != nil || e != api.ErrRange {
				t.Error(delay, faults, c, e)
			}
		}
	}
}

func TestValidFaults(t *testing.T) {
	for _, faults := range [][]api.Fault{
		nil,
		{},
		{{At: 0, Kind: api.Drop}},
		{{At: 0, Kind: api.Flip}},
		{{At: 0, Kind: api.Double}},
		{{At: 0, Kind: api.Drop, Arg: math.MaxInt}, {At: 1, Kind: api.Flip, Arg: math.MaxInt}, {At: 2, Kind: api.Double, Arg: math.MaxInt}},
		{{At: math.MaxInt - 1, Kind: api.Double}, {At: math.MaxInt, Kind: api.Drop}},
	} {
		newCable(t, 1, faults...)
		for _, delay := range []int{0, 101} {
			if c, e := New(delay, faults); c != nil || e != api.ErrRange {
				t.Error(delay, faults, c, e)
			}
		}
	}
}

func TestFaultsAreCopied(t *testing.T) {
	faults := []api.Fault{{At: 0, Kind: api.Drop}, {At: 2, Kind: api.Double}, {At: 3, Kind: api.Flip, Arg: 1}}
	room := append(slices.Clone(faults), api.Fault{At: 9, Kind: 9, Arg: 9})
	given := room[:len(faults)]
	c := newCable(t, 1, given...)
	d, e := New(1, given)
	if e != api.OK || !slices.Equal(given, faults) || room[3] != (api.Fault{At: 9, Kind: 9, Arg: 9}) {
		t.Fatal(e, room)
	}
	clear(room)
	for _, c := range []*Cable{c, d} {
		send(t, c, "a", "b", "c", "d")
		checkTick(t, c, "b", "c", "c", "f")
		checkState(t, c, true, 0, 1)
	}
	if !slices.Equal(room, make([]api.Fault, 4)) {
		t.Error(room)
	}
}

// P5.2

func TestExamples(t *testing.T) {
	c := newCable(t, 2)
	send(t, c, "x")
	checkTick(t, c)
	checkTick(t, c, "x")
	checkTick(t, c)

	c = newCable(t, 2, api.Fault{At: 0, Kind: api.Double})
	send(t, c, "x")
	checkTick(t, c)
	checkTick(t, c, "x", "x")
	checkTick(t, c)

	c = newCable(t, 1, api.Fault{At: 0, Kind: api.Flip, Arg: 7})
	send(t, c, "\x31\x31\x31")
	checkTick(t, c, "\x31\x33\x31")
}

func TestDropIsLost(t *testing.T) {
	for _, arg := range []int{0, 1, math.MaxInt} {
		c := newCable(t, 3, api.Fault{At: 1, Kind: api.Drop, Arg: arg}, api.Fault{At: 3, Kind: api.Drop, Arg: arg})
		for i, want := range []struct{ flying, lost int }{{1, 0}, {1, 1}, {2, 1}, {2, 2}, {3, 2}} {
			send(t, c, []string{"a", "b", "c", "", "e"}[i])
			checkState(t, c, true, want.flying, want.lost)
		}
		checkTick(t, c)
		checkTick(t, c)
		checkTick(t, c, "a", "c", "e")
		checkState(t, c, true, 0, 2)
	}
}

func TestDoubleArrivesTwice(t *testing.T) {
	for _, arg := range []int{0, 1, math.MaxInt} {
		c := newCable(t, 2, api.Fault{At: 1, Kind: api.Double, Arg: arg}, api.Fault{At: 3, Kind: api.Double, Arg: arg})
		for i, flying := range []int{1, 3, 4, 6, 7} {
			send(t, c, []string{"a", "b", "c", "", "e"}[i])
			checkState(t, c, true, flying, 0)
		}
		checkTick(t, c)
		// one copy arrives directly after the other
		checkTick(t, c, "a", "b", "b", "c", "", "", "e")
		checkState(t, c, true, 0, 0)
		checkTick(t, c)
	}
}

func TestFlipInvertsOneBit(t *testing.T) {
	for n := range 5 {
		for _, symbols := range [][]byte{make([]byte, n), bytes.Repeat([]byte{0xff}, n), bytes.Repeat([]byte{0x3f}, n), sample(n, n), sample(162, n)[:40*n]} {
			bits := 6 * len(symbols)
			args := []int{math.MaxInt, math.MaxInt - 1, math.MaxInt / 6, 1 << 32, 1<<32 + 7, 1 << 62}
			for arg := range 3*bits + 3 {
				args = append(args, arg)
			}
			for _, arg := range args {
				c := newCable(t, 1, api.Fault{At: 0, Kind: api.Flip, Arg: arg})
				send(t, c, string(symbols))
				checkState(t, c, true, 1, 0)
				checkTick(t, c, string(wantFlip(symbols, arg)))
				checkState(t, c, true, 0, 0)
				// it concerns no other one
				send(t, c, string(symbols))
				checkTick(t, c, string(symbols))
			}
		}
	}
}

func TestFlipByHand(t *testing.T) {
	for _, f := range []struct {
		symbols string
		arg     int
		want    string
	}{
		{"\x00\x00", 0, "\x01\x00"},
		{"\x00\x00", 1, "\x02\x00"},
		{"\x00\x00", 5, "\x20\x00"},
		{"\x00\x00", 6, "\x00\x01"},
		{"\x00\x00", 11, "\x00\x20"},
		{"\x00\x00", 12, "\x01\x00"},
		{"\xff\xff", 23, "\xff\xdf"},
		{"\x00", math.MaxInt, "\x02"},         // 2^63 - 1 modulo 6 is 1
		{"\x00\x00", math.MaxInt, "\x00\x02"}, // and modulo 12 it is 7
		{"", 0, ""},
		{"", math.MaxInt, ""},
	} {
		c := newCable(t, 1, api.Fault{At: 0, Kind: api.Flip, Arg: f.arg})
		send(t, c, f.symbols)
		checkState(t, c, true, 1, 0)
		checkTick(t, c, f.want)
		checkState(t, c, true, 0, 0)
	}
}

func TestEmptyTransmissions(t *testing.T) {
	c := newCable(t, 1, api.Fault{At: 1, Kind: api.Flip, Arg: math.MaxInt}, api.Fault{At: 2, Kind: api.Double}, api.Fault{At: 3, Kind: api.Drop})
	for range 5 {
		if e := c.Send(nil); e != api.OK {
			t.Fatal(e)
		}
	}
	checkState(t, c, true, 5, 1)
	checkTick(t, c, "", "", "", "", "")
	checkState(t, c, true, 0, 1)
	if e := c.Send([]byte{}); e != api.OK {
		t.Fatal(e)
	}
	checkTick(t, c, "")
}

func TestEverySendUsesUpAnIndex(t *testing.T) {
	// a Double at the index shows which transmission has it
	full := func(c *Cable) {
		for range 64 - c.Flying() {
			send(t, c, "x")
		}
	}
	for name, before := range map[string]struct {
		faults []api.Fault
		act    func(c *Cable)
		index  int
	}{
		"none":    {nil, func(c *Cable) {}, 0},
		"tick":    {nil, func(c *Cable) { c.Tick() }, 0},
		"cut":     {nil, func(c *Cable) { c.Cut(); c.Mend() }, 0},
		"sent":    {nil, func(c *Cable) { send(t, c, "a") }, 1},
		"empty":   {nil, func(c *Cable) { send(t, c, "") }, 1},
		"dropped": {[]api.Fault{{At: 0, Kind: api.Drop}}, func(c *Cable) { send(t, c, "a") }, 1},
		"flipped": {[]api.Fault{{At: 0, Kind: api.Flip}}, func(c *Cable) { send(t, c, "a") }, 1},
		"doubled": {[]api.Fault{{At: 0, Kind: api.Double}}, func(c *Cable) { send(t, c, "a") }, 1},
		"down":    {nil, func(c *Cable) { c.Cut(); send(t, c, "a", "b"); c.Mend() }, 2},
		"down with faults": {[]api.Fault{{At: 0, Kind: api.Double}, {At: 1, Kind: api.Flip}, {At: 2, Kind: api.Drop}},
			func(c *Cable) { c.Cut(); send(t, c, "a", "b", "c"); c.Mend() }, 3},
		"full": {nil, func(c *Cable) { full(c); c.Send([]byte("a")); c.Send([]byte("b")); c.Tick(); c.Tick() }, 66},
		"full and doubled": {[]api.Fault{{At: 63, Kind: api.Double}},
			func(c *Cable) { send(t, c, numbered(0, 63)...); c.Send([]byte("a")); c.Tick(); c.Tick() }, 64},
		"full and dropped": {[]api.Fault{{At: 64, Kind: api.Drop}},
			func(c *Cable) { full(c); send(t, c, "a"); c.Tick(); c.Tick() }, 65},
	} {
		c := newCable(t, 2, append(before.faults, api.Fault{At: before.index, Kind: api.Double})...)
		before.act(c)
		flying := c.Flying()
		send(t, c, "y")
		if c.Flying() != flying+2 {
			t.Errorf("%s: the next one has not the index %d", name, before.index)
		}
		send(t, c, "z")
		if c.Flying() != flying+3 {
			t.Errorf("%s: the next but one has the index %d too", name, before.index)
		}
	}
}

func TestManyFaults(t *testing.T) {
	var faults []api.Fault
	for i := range 999 {
		faults = append(faults, api.Fault{At: 3*i + i%2, Kind: 1 + i%3, Arg: 5 * i})
	}
	c, m := newCable(t, 1, faults...), newModel(1, faults)
	for i := range 3010 {
		s := sample(4, i)
		if got, want := c.Send(s), m.send(s); got != want {
			t.Fatal(i, got, want)
		}
		checkTick(t, c, m.tick()...)
		checkState(t, c, true, 0, m.lost)
	}
}

func TestFull(t *testing.T) {
	for _, delay := range []int{1, 2, 100} {
		c := newCable(t, delay)
		for i, s := range numbered(0, 64) {
			send(t, c, s)
			checkState(t, c, true, i+1, 0)
		}
		for i := range 3 {
			if e := c.Send([]byte("more")); e != api.ErrFull {
				t.Fatal(e)
			}
			checkState(t, c, true, 64, i+1)
		}
		for range delay - 1 {
			checkTick(t, c)
		}
		checkTick(t, c, numbered(0, 64)...)
		checkState(t, c, true, 0, 3)
		// there is room again
		send(t, c, numbered(64, 64)...)
		if e := c.Send(nil); e != api.ErrFull {
			t.Fatal(e)
		}
		checkState(t, c, true, 64, 4)
	}
}

func TestDoubledAtTheEndOfTheRoom(t *testing.T) {
	// two fit exactly
	c := newCable(t, 1, api.Fault{At: 62, Kind: api.Double}, api.Fault{At: 63, Kind: api.Double})
	send(t, c, numbered(0, 63)...)
	checkState(t, c, true, 64, 0)
	if e := c.Send([]byte("more")); e != api.ErrFull {
		t.Fatal(e)
	}
	checkState(t, c, true, 64, 1)
	checkTick(t, c, append(numbered(0, 63), "62")...)

	// one fits, and none of the two is put in flight; it is lost once
	c = newCable(t, 1, api.Fault{At: 63, Kind: api.Double})
	send(t, c, numbered(0, 63)...)
	if e := c.Send([]byte("63")); e != api.ErrFull {
		t.Fatal(e)
	}
	checkState(t, c, true, 63, 1)
	send(t, c, "64")
	checkState(t, c, true, 64, 1)
	if e := c.Send([]byte("65")); e != api.ErrFull {
		t.Fatal(e)
	}
	checkState(t, c, true, 64, 2)
	checkTick(t, c, append(numbered(0, 63), "64")...)
}

func TestLostTransmissionsNeedNoRoom(t *testing.T) {
	c := newCable(t, 1, api.Fault{At: 64, Kind: api.Drop}, api.Fault{At: 65, Kind: api.Flip})
	send(t, c, numbered(0, 64)...)
	send(t, c, "dropped")
	checkState(t, c, true, 64, 1)
	if e := c.Send([]byte("flipped")); e != api.ErrFull {
		t.Fatal(e)
	}
	checkState(t, c, true, 64, 2)
	c.Cut()
	checkState(t, c, false, 0, 66)
	for range 100 { // more than fit in flight
		send(t, c, "down")
	}
	checkState(t, c, false, 0, 166)
}

func TestRoomIsFreedByArrivals(t *testing.T) {
	c := newCable(t, 100)
	for i := range 64 {
		send(t, c, fmt.Sprint(i))
		checkTick(t, c)
	}
	for range 35 {
		checkTick(t, c)
		if e := c.Send(nil); e != api.ErrFull {
			t.Fatal(e)
		}
	}
	for i := range 64 { // each arrival makes room for one
		checkTick(t, c, fmt.Sprint(i))
		send(t, c, fmt.Sprint(64+i))
		if e := c.Send(nil); e != api.ErrFull {
			t.Fatal(e)
		}
		checkState(t, c, true, 64, 35+i+1)
	}
}

func TestSendKeepsACopy(t *testing.T) {
	for _, faults := range [][]api.Fault{nil, {{At: 0, Kind: api.Flip}}, {{At: 0, Kind: api.Double}}, {{At: 0, Kind: api.Drop}}} {
		c := newCable(t, 1, faults...)
		m := newModel(1, faults)
		room := []byte("abcdef")
		m.send([]byte("abc"))
		if e := c.Send(room[:3]); e != api.OK || string(room) != "abcdef" {
			t.Fatalf("%v: %d, %q", faults, e, room)
		}
		clear(room)
		checkTick(t, c, m.tick()...)
		if string(room) != "\x00\x00\x00\x00\x00\x00" {
			t.Errorf("%v: %q", faults, room)
		}
	}
	// down and full
	c := newCable(t, 1)
	c.Cut()
	b := []byte("abc")
	c.Send(b)
	c.Mend()
	for range 65 {
		c.Send(b)
	}
	if string(b) != "abc" {
		t.Errorf("%q", b)
	}
}

// P5.3

func TestArrival(t *testing.T) {
	for delay := 1; delay <= 100; delay++ {
		for _, ticks := range []int{0, 1, 2, 150} { // calls of Tick before it is sent
			c := newCable(t, delay)
			for range ticks {
				checkTick(t, c)
			}
			send(t, c, "x")
			for range delay - 1 {
				checkTick(t, c)
				checkState(t, c, true, 1, 0)
			}
			checkTick(t, c, "x")
			checkState(t, c, true, 0, 0)
			checkTick(t, c)
		}
	}
}

func TestArrivalInOrder(t *testing.T) {
	for _, delay := range []int{1, 2, 3, 99, 100} {
		c := newCable(t, delay)
		var groups [][]string // sent before the first call of Tick, before the second one ..
		next := 0
		for k := range 40 { // at most 64 are in flight, since each third group has four
			n := []int{0, 0, 4}[k%3]
			groups = append(groups, numbered(next, n))
			next += n
		}
		for k := range len(groups) + delay {
			if k < len(groups) {
				send(t, c, groups[k]...)
			}
			var want []string
			if i := k - (delay - 1); i >= 0 && i < len(groups) {
				want = groups[i]
			}
			checkTick(t, c, want...)
		}
		checkState(t, c, true, 0, 0)
	}
}

func TestTickReturnsNewMemory(t *testing.T) {
	c := newCable(t, 1, api.Fault{At: 0, Kind: api.Double})
	send(t, c, "abc", "def")
	list := c.Tick()
	if len(list) != 3 {
		t.Fatal(list)
	}
	// no two of them share memory, not even behind their ends
	for i := range list {
		room := list[i][:cap(list[i])]
		clear(room)
		for j := i + 1; j < len(list); j++ {
			if want := []string{"abc", "abc", "def"}[j]; string(list[j]) != want {
				t.Fatalf("%d, %d: %q", i, j, list[j])
			}
		}
	}
	// neither a result nor its strings are used by the cable again
	send(t, c, "g", "h")
	clear(list[:cap(list)])
	next := c.Tick()
	if len(next) != 2 || string(next[0]) != "g" || string(next[1]) != "h" {
		t.Fatalf("%q", next)
	}
	send(t, c, "ij", "k", "l")
	checkTick(t, c, "ij", "k", "l")
	if string(next[0]) != "g" || string(next[1]) != "h" {
		t.Fatalf("%q", next)
	}
	for _, x := range list[:cap(list)] {
		if x != nil {
			t.Fatalf("%q", x)
		}
	}
}

// P5.4

func TestCutLosesWhatIsInFlight(t *testing.T) {
	c := newCable(t, 3, api.Fault{At: 1, Kind: api.Double}, api.Fault{At: 2, Kind: api.Drop})
	send(t, c, "a")
	checkTick(t, c)
	send(t, c, "b", "c", "d")
	checkState(t, c, true, 4, 1)
	c.Cut()
	checkState(t, c, false, 0, 5) // both copies are lost, and the dropped one is not lost again
	c.Cut()
	checkState(t, c, false, 0, 5)
	for range 5 {
		checkTick(t, c)
	}
	c.Mend()
	checkState(t, c, true, 0, 5)
	c.Mend()
	checkState(t, c, true, 0, 5)
	for range 5 {
		checkTick(t, c)
	}
	send(t, c, "e")
	checkState(t, c, true, 1, 5)
	c.Mend() // what is in flight stays in flight
	checkState(t, c, true, 1, 5)
	checkTick(t, c)
	checkTick(t, c)
	checkTick(t, c, "e")
	checkState(t, c, true, 0, 5)
}

func TestCutWithNothingInFlight(t *testing.T) {
	c := newCable(t, 1)
	c.Cut()
	checkState(t, c, false, 0, 0)
	c.Mend()
	checkState(t, c, true, 0, 0)
	send(t, c, "a")
	checkTick(t, c, "a")
	c.Cut() // what has arrived is not lost
	checkState(t, c, false, 0, 0)
}

func TestSendWhileDown(t *testing.T) {
	c := newCable(t, 2, api.Fault{At: 0, Kind: api.Double}, api.Fault{At: 1, Kind: api.Drop}, api.Fault{At: 2, Kind: api.Flip})
	c.Cut()
	for i := range 4 { // one for each, a doubled one too
		send(t, c, "a")
		checkState(t, c, false, 0, i+1)
	}
	checkTick(t, c)
	send(t, c, "a")
	checkState(t, c, false, 0, 5)
	c.Mend()
	send(t, c, "b")
	checkState(t, c, true, 1, 5)
	checkTick(t, c)
	checkTick(t, c, "b")
}

func TestTimePassesWhileDown(t *testing.T) {
	c := newCable(t, 3)
	checkTick(t, c)
	c.Cut()
	for range 50 {
		checkTick(t, c)
	}
	c.Mend()
	checkTick(t, c)
	send(t, c, "a")
	checkTick(t, c)
	checkTick(t, c)
	checkTick(t, c, "a")
}

func TestCutJustBeforeAnArrival(t *testing.T) {
	for _, delay := range []int{1, 2, 100} {
		c := newCable(t, delay)
		send(t, c, "a")
		for range delay - 1 {
			checkTick(t, c)
		}
		c.Cut()
		c.Mend()
		send(t, c, "b")
		checkState(t, c, true, 1, 1)
		for range delay - 1 {
			checkTick(t, c)
		}
		checkTick(t, c, "b")
		checkState(t, c, true, 0, 1)
	}
}

func TestCablesAreSeparate(t *testing.T) {
	faults := []api.Fault{{At: 0, Kind: api.Double}}
	c, d := newCable(t, 1, faults...), newCable(t, 2, faults...)
	send(t, c, "a")
	checkState(t, d, true, 0, 0)
	c.Cut()
	checkState(t, d, true, 0, 0)
	send(t, d, "b")
	checkState(t, c, false, 0, 2)
	checkTick(t, d)
	checkTick(t, d, "b", "b")
}

// P5.2, P5.3, P5.4

func TestNilCable(t *testing.T) {
	var c *Cable
	for _, symbols := range [][]byte{nil, {}, {1}, make([]byte, 1000)} {
		if e := c.Send(symbols); e != api.ErrArg {
			t.Error(e)
		}
	}
	for range 2 {
		if list := c.Tick(); len(list) != 0 {
			t.Error(list)
		}
		checkState(t, c, false, 0, 0)
		c.Cut()
		checkState(t, c, false, 0, 0)
		c.Mend()
		checkState(t, c, false, 0, 0)
	}
}

// P5.5

func TestAllArrivesAfterTheDelay(t *testing.T) {
	for _, delay := range []int{1, 2, 7, 99, 100} {
		c := newCable(t, delay)
		var sent, arrived []string
		var when, ticks []int // when each was sent, and in which call it arrived
		for k := 1; k <= 1000+delay; k++ {
			if k <= 1000 && c.Flying() <= 60 {
				for i := range int(sample(1, k)[0]) % 5 {
					s := string(sample((k+i)%9, 5*k+i))
					send(t, c, s)
					sent, when = append(sent, s), append(when, k)
				}
			}
			for _, x := range c.Tick() {
				arrived, ticks = append(arrived, string(x)), append(ticks, k)
			}
		}
		if !slices.Equal(arrived, sent) || len(sent) < 500 {
			t.Fatalf("delay %d: sent %d, arrived %d", delay, len(sent), len(arrived))
		}
		for i := range when {
			if ticks[i] != when[i]+delay-1 {
				t.Fatalf("delay %d: %d, %d", delay, when[i], ticks[i])
			}
		}
		checkState(t, c, true, 0, 0)
	}
}

// randomFaults returns a valid list without a visible pattern; the greater rare is, the farther apart the faults are.
func randomFaults(seed, rare int) []api.Fault {
	var faults []api.Fault
	at := 0
	for i := range 300 {
		x := sample(4, 1000*seed+i)
		at += int(x[0]) % (2 * rare)
		faults = append(faults, api.Fault{At: at, Kind: 1 + int(x[1])%3, Arg: int(x[2])<<8 + int(x[3])})
		at++
	}
	return faults
}

// tally counts, from the outside, what P5.5 adds up.
type tally struct{ sent, doubled, arrived int }

func (n *tally) check(t *testing.T, c *Cable) {
	t.Helper()
	if n.sent+n.doubled != n.arrived+c.Flying()+c.Lost() || c.Flying() > 64 {
		t.Fatalf("%+v, flying %d, lost %d", *n, c.Flying(), c.Lost())
	}
}

// step does one call with a cable and its model, as x tells.
func step(t *testing.T, c *Cable, m *model, n *tally, x []byte) {
	t.Helper()
	switch {
	case x[0] == 0:
		c.Cut()
		m.cut()
	case x[0] < 8:
		c.Mend()
		m.down = false
	case x[0] < 100:
		want := m.tick()
		n.arrived += len(want)
		checkTick(t, c, want...)
	default:
		symbols := sample(int(x[1])%6, int(x[1])+256*int(x[2]))
		before := c.Flying()
		if got, want := c.Send(symbols), m.send(symbols); got != want {
			t.Fatal(got, want)
		}
		n.sent++
		if c.Flying() == before+2 {
			n.doubled++
		}
	}
	checkState(t, c, !m.down, m.flying, m.lost)
	n.check(t, c)
}

func TestNothingIsCountedTwice(t *testing.T) {
	for _, delay := range []int{1, 2, 20, 50, 100} {
		for seed := range 20 {
			faults := randomFaults(seed, 1+seed%4)
			c, m := newCable(t, delay, faults...), newModel(delay, faults)
			var n tally
			for i := range 1500 {
				step(t, c, m, &n, sample(3, 100000*seed+i))
			}
			for range delay {
				got := c.Tick()
				n.arrived += len(got)
				if want := m.tick(); len(got) != len(want) {
					t.Fatalf("%q arrived, not %q", got, want)
				}
				n.check(t, c)
			}
			if c.Flying() != 0 || n.sent == 0 {
				t.Fatal(c.Flying(), n)
			}
		}
	}
}

// P1

func TestNothingPanics(t *testing.T) {
	numbers := []int{math.MinInt, math.MinInt + 1, -1, 0, 1, 2, 3, 4, 64, 65, 100, 101, math.MaxInt - 1, math.MaxInt}
	for _, delay := range numbers {
		for _, at := range numbers {
			for _, arg := range numbers {
				for kind := -1; kind <= 5; kind++ {
					c, e := New(delay, []api.Fault{{At: at, Kind: kind, Arg: arg}})
					want := api.OK
					if delay < 1 || delay > 100 {
						want = api.ErrRange
					} else if at < 0 || kind < 1 || kind > 3 || arg < 0 {
						want = api.ErrArg
					}
					if e != want || (c == nil) != (e != api.OK) {
						t.Fatal(delay, at, kind, arg, c, e)
					}
					c.Send(nil)
					c.Send([]byte{1})
					c.Send(make([]byte, 1000))
					c.Tick()
					c.Cut()
					c.Mend()
				}
			}
		}
	}
	var c Cable // one that New has not made
	c.Send([]byte{1})
	c.Tick()
	c.Mend()
	c.Send([]byte{1})
	c.Tick()
	c.Cut()
}

func TestSameCallsHaveTheSameResults(t *testing.T) {
	run := func() (list []string) {
		faults := randomFaults(3, 2)
		c := newCable(t, 5, faults...)
		for i := range 500 {
			list = append(list, fmt.Sprint(c.Send(sample(i%4, i)), c.Flying(), c.Lost()))
			if i%3 == 0 {
				list = append(list, fmt.Sprint(c.Tick()))
			}
		}
		return list
	}
	if !slices.Equal(run(), run()) {
		t.Error("two runs differ")
	}
}
