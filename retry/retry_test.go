package retry_test

import (
	"bytes"
	"fmt"
	"math"
	"slices"
	"testing"

	"fairlink/api"
	. "fairlink/retry"
)

// none stands for a tick in which nothing is sent.
const none = -1

// dice returns a function that returns numbers from 0 to n-1 without a visible pattern,
// other ones for each seed.
func dice(seed int) func(n int) int {
	x := uint64(seed)*2654435761 + 12345
	return func(n int) int {
		x = x*6364136223846793005 + 1442695040888963407
		return int(x >> 33 % uint64(n))
	}
}

// sample returns a string of n bytes without a visible pattern.
func sample(n, seed int) []byte {
	roll := dice(seed)
	b := make([]byte, n)
	for i := range b {
		b[i] = byte(roll(256))
	}
	return b
}

// text is the content of the packet with an index, which it tells.
func text(index int) string {
	return fmt.Sprint("packet ", index)
}

func newSender(t *testing.T, window, timeout int) *Sender {
	t.Helper()
	s, e := NewSender(window, timeout)
	if e != api.OK || s == nil {
		t.Fatal(window, timeout, e)
	}
	return s
}

// offer offers n packets with the indices from first on, which are taken.
func offer(t *testing.T, s *Sender, first, n int) {
	t.Helper()
	for i := range n {
		if e := s.Offer([]byte(text(first + i))); e != api.OK {
			t.Fatalf("Offer(%q): %d", text(first+i), e)
		}
	}
}

// checkTicks calls Tick, in which the packets with these indices are sent, or none.
func checkTicks(t *testing.T, s *Sender, want ...int) {
	t.Helper()
	for i, index := range want {
		number, data, ok := s.Tick()
		if index == none {
			if number != 0 || data != nil || ok {
				t.Fatalf("tick %d: %d %q %t, not nothing", i, number, data, ok)
			}
		} else if number != index%256 || string(data) != text(index) || !ok {
			t.Fatalf("tick %d: %d %q %t, not %d %q", i, number, data, ok, index%256, text(index))
		}
	}
}

func checkAck(t *testing.T, s *Sender, number, want int) {
	t.Helper()
	if k := s.Ack(number); k != want {
		t.Fatalf("Ack(%d): %d, not %d", number, k, want)
	}
}

func checkNak(t *testing.T, s *Sender, number, want int) {
	t.Helper()
	if k := s.Nak(number); k != want {
		t.Fatalf("Nak(%d): %d, not %d", number, k, want)
	}
}

func checkState(t *testing.T, s *Sender, kept, taken, acknowledged int) {
	t.Helper()
	a, b := s.Total()
	if s.Kept() != kept || a != taken || b != acknowledged {
		t.Fatalf("kept %d, taken %d, acknowledged %d, not %d, %d, %d", s.Kept(), a, b, kept, taken, acknowledged)
	}
}

// span returns n numbers from first on.
func span(first, n int) []int {
	list := make([]int, n)
	for i := range list {
		list[i] = first + i
	}
	return list
}

// silence returns n ticks in which nothing is sent.
func silence(n int) []int {
	return slices.Repeat([]int{none}, n)
}

// model follows the definitions, with all packets that were ever offered, by their indices.
type model struct {
	window, timeout int
	offered         []string
	wasSent         []bool
	oldest, next    int // the first index that is not acknowledged, and the position
	timer           int
}

func (m *model) offer(data []byte) api.Errno {
	if len(data) > 64 {
		return api.ErrRange
	}
	if len(m.offered)-m.oldest == m.window {
		return api.ErrFull
	}
	m.offered = append(m.offered, string(data))
	m.wasSent = append(m.wasSent, false)
	return api.OK
}

func (m *model) send() (int, string, bool) {
	i := m.next
	m.wasSent[i] = true
	m.next++
	m.timer = 0
	return i % 256, m.offered[i], true
}

func (m *model) tick() (int, string, bool) {
	if m.next < len(m.offered) {
		return m.send()
	}
	if m.oldest < len(m.offered) {
		m.timer++
		if m.timer == m.timeout {
			m.next = m.oldest
			return m.send()
		}
	}
	return 0, "", false
}

func (m *model) ack(number int) (count int, valid bool) {
	for k := range 256 {
		if (m.oldest+k)%256 != number {
			continue
		}
		end := m.oldest + k
		if end > len(m.offered) || slices.Contains(m.wasSent[m.oldest:end], false) {
			return 0, false
		}
		if k > 0 {
			m.oldest = end
			m.next = max(m.next, end)
			m.timer = 0
		}
		return k, true
	}
	return 0, false
}

func (m *model) nak(number int) int {
	count, valid := m.ack(number)
	if valid {
		m.next = m.oldest
		m.timer = 0
	}
	return count
}

// P6.1

func TestNewSender(t *testing.T) {
	if Modulus != 256 || MaxWindow != 128 || MaxTimeout != 1000 {
		t.Fatal(Modulus, MaxWindow, MaxTimeout)
	}
	windows := map[int]bool{math.MinInt: false, -128: false, -1: false, 0: false, 1: true, 2: true, 64: true, 127: true, 128: true,
		129: false, 255: false, 257: false, 1000: false, 1 << 32: false, 1<<32 + 1: false, math.MaxInt: false}
	timeouts := map[int]bool{math.MinInt: false, -1000: false, -1: false, 0: false, 1: true, 2: true, 128: true, 129: true, 999: true, 1000: true,
		1001: false, 1 << 32: false, 1<<32 + 1: false, math.MaxInt: false}
	for window, good := range windows {
		for timeout, fine := range timeouts {
			s, e := NewSender(window, timeout)
			if good && fine && (s == nil || e != api.OK) || !(good && fine) && (s != nil || e != api.ErrRange) {
				t.Error(window, timeout, s, e)
			}
		}
	}
}

func TestSenderWithoutPackets(t *testing.T) {
	for _, window := range []int{1, 128} {
		for _, timeout := range []int{1, 1000} {
			s := newSender(t, window, timeout)
			checkState(t, s, 0, 0, 0)
			checkTicks(t, s, silence(1001)...)
			for _, number := range append(span(-1, 258), math.MinInt, math.MaxInt) {
				checkAck(t, s, number, 0)
				checkNak(t, s, number, 0)
			}
			checkState(t, s, 0, 0, 0)
			checkTicks(t, s, none)
		}
	}
}

func TestNilSender(t *testing.T) {
	var s *Sender
	for _, n := range []int{0, 1, 64, 65} {
		if e := s.Offer(make([]byte, n)); e != api.ErrArg {
			t.Error(n, e)
		}
	}
	checkTicks(t, s, none, none)
	for _, number := range []int{math.MinInt, -1, 0, 1, 255, 256, math.MaxInt} {
		checkAck(t, s, number, 0)
		checkNak(t, s, number, 0)
	}
	checkState(t, s, 0, 0, 0)
}

func TestNilReceiver(t *testing.T) {
	var r *Receiver
	for _, number := range []int{math.MinInt, -1, 0, 1, 255, 256, math.MaxInt} {
		if b, ok := r.Receive(number, []byte("x")); b != nil || ok {
			t.Error(number, b, ok)
		}
	}
	if r.Expected() != 0 || r.Total() != 0 {
		t.Error(r.Expected(), r.Total())
	}
}

// P6.2

func TestOfferLengths(t *testing.T) {
	s := newSender(t, 128, 1)
	for n := range 65 {
		if e := s.Offer(sample(n, n)); e != api.OK {
			t.Fatal(n, e)
		}
		checkState(t, s, n+1, n+1, 0)
	}
	for _, n := range []int{65, 66, 128, 256 + 64, 1 << 16} {
		if e := s.Offer(sample(n, n)); e != api.ErrRange {
			t.Error(n, e)
		}
		checkState(t, s, 65, 65, 0)
	}
	if e := s.Offer(nil); e != api.OK {
		t.Fatal(e)
	}
	for n := range 65 {
		number, data, ok := s.Tick()
		if number != n || !bytes.Equal(data, sample(n, n)) || !ok {
			t.Fatal(n, number, data, ok)
		}
	}
	if number, data, ok := s.Tick(); number != 65 || len(data) != 0 || !ok {
		t.Error(number, data, ok)
	}
}

func TestOfferWithFullWindow(t *testing.T) {
	fits, long := make([]byte, 64), make([]byte, 65)
	for window := 1; window <= 128; window++ {
		s := newSender(t, window, 1000)
		for i := range window {
			if e := s.Offer(long); e != api.ErrRange {
				t.Fatal(window, i, e)
			}
			offer(t, s, i, 1)
		}
		for range 2 {
			if e := s.Offer(fits); e != api.ErrFull {
				t.Fatal(window, e)
			}
			if e := s.Offer(nil); e != api.ErrFull {
				t.Fatal(window, e)
			}
			if e := s.Offer(long); e != api.ErrRange {
				t.Fatal(window, e)
			}
		}
		checkState(t, s, window, window, 0)
		checkTicks(t, s, append(span(0, window), none)...)
	}
}

func TestOfferAfterAcknowledgments(t *testing.T) {
	for _, window := range []int{1, 2, 5, 128} {
		s := newSender(t, window, 1000)
		offer(t, s, 0, window)
		checkTicks(t, s, span(0, window)...)
		checkNak(t, s, 0, 0)
		if e := s.Offer(nil); e != api.ErrFull { // what was sent occupies the window, too
			t.Fatal(window, e)
		}
		checkAck(t, s, 1, 1)
		checkState(t, s, window-1, window, 1)
		offer(t, s, window, 1)
		checkState(t, s, window, window+1, 1)
		if e := s.Offer(nil); e != api.ErrFull {
			t.Fatal(window, e)
		}
		if e := s.Offer(make([]byte, 65)); e != api.ErrRange {
			t.Fatal(window, e)
		}
		checkTicks(t, s, span(1, window)...)
	}
}

func TestRefusedOffersChangeNothing(t *testing.T) {
	s := newSender(t, 2, 3)
	offer(t, s, 0, 2)
	for _, want := range []int{0, 1, none, none, 0, 1, none, none, 0} {
		if e := s.Offer([]byte("x")); e != api.ErrFull {
			t.Fatal(e)
		}
		if e := s.Offer(make([]byte, 65)); e != api.ErrRange {
			t.Fatal(e)
		}
		checkState(t, s, 2, 2, 0)
		checkTicks(t, s, want)
	}
}

func TestOfferedDataAreCopied(t *testing.T) {
	s := newSender(t, 4, 1)
	room := []byte("abcdef")
	for _, data := range [][]byte{room[:2], room[1:3], room[:2], room[3:3]} {
		if e := s.Offer(data); e != api.OK {
			t.Fatal(e)
		}
	}
	if string(room) != "abcdef" {
		t.Fatalf("%q", room)
	}
	copy(room, "ABCDEF")
	for range 2 {
		for i, want := range []string{"ab", "bc", "ab", ""} {
			number, data, ok := s.Tick()
			if number != i || string(data) != want || !ok {
				t.Fatalf("%d %q %t", number, data, ok)
			}
			data = append(data, "zzzz"...)
			clear(data[:cap(data)])
		}
	}
	if string(room) != "ABCDEF" {
		t.Errorf("%q", room)
	}
}

// P6.3

func TestExample(t *testing.T) {
	s := newSender(t, 2, 3)
	offer(t, s, 0, 2)
	checkTicks(t, s, 0, 1, none, none, 0)
	checkNak(t, s, 1, 1)
	checkTicks(t, s, 1)
}

func TestTimeouts(t *testing.T) {
	for timeout := 1; timeout <= 1000; timeout++ {
		for _, kept := range []int{1, 3} {
			s := newSender(t, 128, timeout)
			offer(t, s, 0, kept)
			round := append(span(0, kept), silence(timeout-1)...)
			for range 3 {
				checkTicks(t, s, round...)
			}
			checkTicks(t, s, 0)
			checkState(t, s, kept, kept, 0)
		}
	}
}

// The timer counts only while there are kept packets and none is at the position.
func TestTicksThatDoNotCount(t *testing.T) {
	s := newSender(t, 3, 3)
	checkTicks(t, s, silence(7)...)
	offer(t, s, 0, 1)
	checkTicks(t, s, 0, none, none, 0, none)
	checkAck(t, s, 1, 1)
	checkTicks(t, s, silence(7)...)
	offer(t, s, 1, 2)
	checkTicks(t, s, 1, 2, none, none, 1, 2, none, none, 1)
}

// A packet that is offered during the waiting is sent, and the waiting begins anew.
func TestOfferDuringWaiting(t *testing.T) {
	s := newSender(t, 5, 3)
	offer(t, s, 0, 1)
	checkTicks(t, s, 0, none, none)
	offer(t, s, 1, 2)
	checkTicks(t, s, 1, 2, none, none)
	offer(t, s, 3, 1)
	checkTicks(t, s, 3, none, none, 0, 1)
	offer(t, s, 4, 1)
	checkTicks(t, s, 2, 3, 4, none, none, 0)
}

func TestTickReturnsCopies(t *testing.T) {
	s := newSender(t, 1, 1)
	offer(t, s, 0, 1)
	var all [][]byte
	for range 4 {
		_, data, ok := s.Tick()
		if !ok || string(data) != text(0) {
			t.Fatalf("%q %t", data, ok)
		}
		all = append(all, data)
	}
	for i := range all {
		clear(all[i][:cap(all[i])])
		for j := i + 1; j < len(all); j++ {
			if string(all[j]) != text(0) {
				t.Fatal(i, j)
			}
		}
	}
	checkTicks(t, s, 0)
}

// P6.4

// sentSome returns a sender with the window 8 and the timeout 3 that keeps the
// packets with the indices from acked on, of which the first ones were sent.
func sentSome(t *testing.T, acked, kept, sent int) *Sender {
	t.Helper()
	s := newSender(t, 8, 3)
	for i := range acked {
		offer(t, s, i, 1)
		checkTicks(t, s, i)
		checkAck(t, s, (i+1)%256, 1)
	}
	offer(t, s, acked, kept)
	checkTicks(t, s, span(acked, sent)...)
	checkState(t, s, kept, acked+kept, acked)
	return s
}

// All numbers, for all counts of sent and kept packets, and with an oldest number
// at the beginning, in the middle, and before, at and behind the end.
func TestAckOfAllNumbers(t *testing.T) {
	for _, acked := range []int{0, 1, 100, 249, 255, 256, 257, 511, 512} {
		for kept := range 9 {
			for sent := range kept + 1 {
				s := sentSome(t, acked, kept, sent)
				for number := -600; number <= 600; number++ {
					k := 0
					for k <= sent && (acked+k)%256 != number {
						k++
					}
					if k == 0 || k > sent {
						checkAck(t, s, number, 0)
					} else {
						d := sentSome(t, acked, kept, sent)
						checkAck(t, d, number, k)
						checkState(t, d, kept-k, acked+kept, acked+k)
						checkTicks(t, d, span(acked+sent, kept-sent)...)
					}
				}
				checkState(t, s, kept, acked+kept, acked)
				checkTicks(t, s, span(acked+sent, kept-sent)...)
			}
		}
	}
}

func TestFarNumbers(t *testing.T) {
	s := sentSome(t, 3, 5, 5)
	far := []int{math.MinInt, math.MinInt + 3, -1 << 32, 1<<32 + 4, 1 << 32, 256 + 3, 256 + 4, 512 + 4, -256 + 4, -252, -1, 256, 257, math.MaxInt, math.MaxInt - 251}
	for _, number := range far {
		checkAck(t, s, number, 0)
		checkNak(t, s, number, 0)
		checkState(t, s, 5, 8, 3)
	}
	checkTicks(t, s, none, none, 3)
	for _, number := range far { // between two packets
		checkNak(t, s, number, 0)
	}
	checkTicks(t, s, 4, 5, 6, 7, none)
}

// With an acknowledgment of no packets, Ack has no effect on the timer and on the position.
func TestAckOfNone(t *testing.T) {
	s := sentSome(t, 2, 2, 2)
	checkAck(t, s, 2, 0)
	checkTicks(t, s, none)
	checkAck(t, s, 2, 0)
	checkTicks(t, s, none)
	checkAck(t, s, 2, 0)
	checkState(t, s, 2, 4, 2)
	checkTicks(t, s, 2)
	checkAck(t, s, 2, 0)
	checkTicks(t, s, 3, none)
}

// An acknowledgment that is not valid has no effect on the timer and on the position.
func TestAckThatIsNotValid(t *testing.T) {
	bad := func(s *Sender) {
		t.Helper()
		for _, number := range []int{0, 1, 6, 7, 8, 130, 255, 256, 258, 260, -1, -252} {
			checkAck(t, s, number, 0)
			checkNak(t, s, number, 0)
		}
		checkState(t, s, 4, 6, 2)
	}
	s := sentSome(t, 2, 4, 3)
	bad(s)
	checkTicks(t, s, 5)
	s = sentSome(t, 2, 3, 3)
	checkTicks(t, s, none, none)
	offer(t, s, 5, 1)
	bad(s)
	checkTicks(t, s, 5)
	for _, want := range []int{none, none, 2, 3, 4, 5, none, none, 2} {
		for _, number := range []int{0, 1, 7, 8, 255, 256, 258, -1} {
			checkAck(t, s, number, 0)
			checkNak(t, s, number, 0)
		}
		checkTicks(t, s, want)
	}
}

// Packets that were kept but never sent are not acknowledged, also after going back.
func TestAckOfUnsentPackets(t *testing.T) {
	s := newSender(t, 4, 2)
	offer(t, s, 0, 1)
	checkAck(t, s, 1, 0)
	checkNak(t, s, 1, 0)
	checkTicks(t, s, 0)
	offer(t, s, 1, 3)
	checkAck(t, s, 2, 0)
	checkTicks(t, s, 1)
	checkAck(t, s, 3, 0)
	checkNak(t, s, 3, 0)
	checkNak(t, s, 0, 0)
	checkTicks(t, s, 0) // the packets 0 and 1 were sent, the position is at 1
	checkAck(t, s, 3, 0)
	checkAck(t, s, 4, 0)
	checkState(t, s, 4, 4, 0)
	checkAck(t, s, 2, 2)
	checkAck(t, s, 3, 0)
	checkState(t, s, 2, 4, 2)
	checkTicks(t, s, 2)
	checkAck(t, s, 4, 0)
	checkTicks(t, s, 3)
	checkAck(t, s, 4, 2)
	checkState(t, s, 0, 4, 4)
	checkAck(t, s, 5, 0)
}

// The position stays at the same packet.
func TestAckKeepsThePosition(t *testing.T) {
	for sent := range 7 {
		for again := range sent + 1 {
			for k := range sent + 1 {
				s := newSender(t, 6, 5)
				offer(t, s, 0, 6)
				checkTicks(t, s, span(0, sent)...)
				checkNak(t, s, 0, 0)
				checkTicks(t, s, span(0, again)...)
				checkAck(t, s, k, k)
				checkState(t, s, 6-k, 6, k)
				next := max(k, again) // not before the oldest one
				checkTicks(t, s, span(next, 6-next)...)
				if k < 6 {
					checkTicks(t, s, append(silence(4), k)...)
				}
				checkTicks(t, s, span(k+1, max(5-k, 0))...)
			}
		}
	}
}

// After the timer has reached the timeout, an acknowledgment may be for packets at and behind the position.
func TestAckAfterGoingBack(t *testing.T) {
	s := newSender(t, 5, 2)
	offer(t, s, 0, 5)
	checkTicks(t, s, 0, 1, 2, 3, 4, none, 0)
	checkAck(t, s, 4, 4)
	checkState(t, s, 1, 5, 4)
	checkTicks(t, s, 4, none, 4)
	checkAck(t, s, 5, 1)
	checkTicks(t, s, none, none, none)
	offer(t, s, 5, 1)
	checkTicks(t, s, 5, none, 5)
}

// A valid acknowledgment of packets sets the timer to 0, in every tick of the waiting.
func TestAckSetsTheTimer(t *testing.T) {
	for _, timeout := range []int{2, 3, 10, 1000} {
		for waited := range min(timeout, 10) {
			s := newSender(t, 3, timeout)
			offer(t, s, 0, 3)
			checkTicks(t, s, 0, 1, 2)
			checkTicks(t, s, silence(waited)...)
			checkAck(t, s, 1, 1)
			checkTicks(t, s, silence(timeout-1)...)
			checkAck(t, s, 2, 1)
			checkTicks(t, s, silence(timeout-1)...)
			checkTicks(t, s, 2)
			checkState(t, s, 1, 3, 2)
		}
	}
}

func TestNakMovesThePosition(t *testing.T) {
	for sent := range 7 {
		for again := range sent + 1 {
			for k := range sent + 1 {
				s := newSender(t, 6, 3)
				offer(t, s, 0, 6)
				checkTicks(t, s, span(0, sent)...)
				checkNak(t, s, 0, 0)
				checkTicks(t, s, span(0, again)...)
				checkNak(t, s, k, k)
				checkState(t, s, 6-k, 6, k)
				checkTicks(t, s, span(k, 6-k)...)
				if k < 6 {
					checkTicks(t, s, none, none, k)
				}
			}
		}
	}
}

// Where it is valid, Nak ends the waiting, also if it acknowledges nothing; the next waiting takes its full time.
func TestNakDuringWaiting(t *testing.T) {
	s := newSender(t, 4, 3)
	offer(t, s, 0, 3)
	checkTicks(t, s, 0, 1, 2, none, none)
	checkNak(t, s, 4, 0)
	checkNak(t, s, 255, 0)
	checkTicks(t, s, 0, 1, 2, none)
	checkNak(t, s, 1, 1)
	checkTicks(t, s, 1, 2, none, none)
	checkNak(t, s, 1, 0)
	checkTicks(t, s, 1, 2, none, none)
	checkNak(t, s, 3, 2)
	checkState(t, s, 0, 3, 3)
	checkTicks(t, s, none, none, none, none)
	checkNak(t, s, 3, 0)
	offer(t, s, 3, 1)
	checkTicks(t, s, 3, none, none, 3)
}

// The greatest window, with numbers that pass 255: everything is acknowledged at once,
// or in parts, or none of it; numbers that are off by one are never valid.
func TestNumbersPass255(t *testing.T) {
	for _, part := range []int{1, 3, 64, 100, 127, 128} {
		s := newSender(t, 128, 2)
		oldest, offered := 0, 0
		for oldest < 1100 {
			offer(t, s, offered, oldest+128-offered)
			checkTicks(t, s, span(offered, oldest+128-offered)...)
			offered = oldest + 128
			for _, k := range []int{0, 129, 130, 254, 255} {
				checkAck(t, s, (oldest+k)%256, 0)
			}
			checkState(t, s, 128, offered, oldest)
			checkTicks(t, s, append([]int{none}, span(oldest, 128)...)...)
			checkAck(t, s, (oldest+part)%256, part)
			oldest += part
			checkState(t, s, 128-part, offered, oldest)
		}
	}
}

// P6.5

func TestTotals(t *testing.T) {
	s := newSender(t, 3, 2)
	checkState(t, s, 0, 0, 0)
	offer(t, s, 0, 1)
	checkState(t, s, 1, 1, 0)
	offer(t, s, 1, 2)
	checkState(t, s, 3, 3, 0)
	if e := s.Offer(nil); e != api.ErrFull {
		t.Fatal(e)
	}
	checkState(t, s, 3, 3, 0)
	checkTicks(t, s, 0, 1, 2, none, 0)
	checkState(t, s, 3, 3, 0)
	checkAck(t, s, 2, 2)
	checkState(t, s, 1, 3, 2)
	if e := s.Offer(make([]byte, 65)); e != api.ErrRange {
		t.Fatal(e)
	}
	checkState(t, s, 1, 3, 2)
	offer(t, s, 3, 1)
	checkState(t, s, 2, 4, 2)
	checkNak(t, s, 3, 1)
	checkState(t, s, 1, 4, 3)
	checkNak(t, s, 3, 0)
	checkNak(t, s, 2, 0)
	checkAck(t, s, 4, 0)
	checkState(t, s, 1, 4, 3)
	checkTicks(t, s, 3)
	checkAck(t, s, 4, 1)
	checkState(t, s, 0, 4, 4)
	checkTicks(t, s, none, none)
	checkState(t, s, 0, 4, 4)
}

// anyNumber returns a number for an acknowledgment, which is often one near the valid ones.
func anyNumber(m *model, roll func(int) int) int {
	number := (m.oldest + roll(len(m.offered)-m.oldest+3) - 1 + 256) % 256
	switch roll(8) {
	case 0:
		return roll(256)
	case 1:
		return number + 256*(roll(5)-2)
	}
	return number
}

// step makes one call to both, and compares their results.
func step(t *testing.T, s *Sender, m *model, roll func(int) int) {
	t.Helper()
	switch roll(10) {
	case 0, 1, 2:
		data := sample(roll(68), roll(1<<20))
		if e, want := s.Offer(data), m.offer(data); e != want {
			t.Fatal(len(data), e, want)
		}
	case 3:
		number := anyNumber(m, roll)
		want, _ := m.ack(number)
		checkAck(t, s, number, want)
	case 4:
		number := anyNumber(m, roll)
		checkNak(t, s, number, m.nak(number))
	default:
		number, data, ok := s.Tick()
		n, d, sent := m.tick()
		if number != n || string(data) != d || ok != sent {
			t.Fatalf("%d %q %t, not %d %q %t", number, data, ok, n, d, sent)
		}
	}
	checkState(t, s, len(m.offered)-m.oldest, len(m.offered), m.oldest)
}

func TestAgainstModel(t *testing.T) {
	for seed, window := range []int{1, 2, 3, 4, 5, 8, 16, 64, 127, 128} {
		for _, timeout := range []int{1, 2, 3, 5, 20, 1000} {
			s := newSender(t, window, timeout)
			m := &model{window: window, timeout: timeout}
			roll := dice(100*seed + timeout)
			for range 10000 {
				step(t, s, m, roll)
			}
			if m.oldest < 256 {
				t.Error("no number has passed 255", window, timeout, m.oldest)
			}
		}
	}
}

// P6.6

func TestReceive(t *testing.T) {
	r := NewReceiver()
	if r == nil {
		t.Fatal("nil")
	}
	for i := range 1100 {
		if r.Expected() != i%256 || r.Total() != i {
			t.Fatal(i, r.Expected(), r.Total())
		}
		for number := -300; number <= 600; number++ {
			if number == i%256 {
				continue
			}
			if b, ok := r.Receive(number, []byte("x")); b != nil || ok {
				t.Fatal(i, number, b, ok)
			}
		}
		for _, number := range []int{math.MinInt, math.MinInt + i%256, i%256 + 1<<32, math.MaxInt, math.MaxInt - 255 + i%256} {
			if b, ok := r.Receive(number, nil); b != nil || ok {
				t.Fatal(i, number, b, ok)
			}
		}
		if r.Expected() != i%256 || r.Total() != i {
			t.Fatal(i, r.Expected(), r.Total())
		}
		data := sample(i%65, i)
		if b, ok := r.Receive(i%256, data); !bytes.Equal(b, data) || !ok {
			t.Fatal(i, b, ok)
		}
	}
}

func TestReceiversAreIndependent(t *testing.T) {
	r, d := NewReceiver(), NewReceiver()
	for i := range 3 {
		if _, ok := r.Receive(i, nil); !ok {
			t.Fatal(i)
		}
	}
	if r.Expected() != 3 || r.Total() != 3 || d.Expected() != 0 || d.Total() != 0 {
		t.Error(r.Expected(), r.Total(), d.Expected(), d.Total())
	}
}

func TestReceiveReturnsCopies(t *testing.T) {
	r := NewReceiver()
	room := []byte("abcdef")
	first, _ := r.Receive(0, room[:3])
	second, _ := r.Receive(1, room[:3])
	empty, _ := r.Receive(2, room[:0])
	if string(first) != "abc" || string(second) != "abc" || len(empty) != 0 || string(room) != "abcdef" {
		t.Fatalf("%q %q %q %q", first, second, empty, room)
	}
	clear(empty[:cap(empty)])
	clear(first[:cap(first)])
	if string(second) != "abc" || string(room) != "abcdef" {
		t.Errorf("%q %q", second, room)
	}
	clear(room)
	if string(second) != "abc" {
		t.Errorf("%q", second)
	}
	clear(second)
	if room[0] != 0 || r.Expected() != 3 || r.Total() != 3 {
		t.Error(room, r.Expected(), r.Total())
	}
}

// P6.7

// packet is what the queue to the receiver carries.
type packet struct {
	number int
	data   string
}

// ack is what the queue to the sender carries: what the receiver expects, with Nak or with Ack.
type ack struct {
	number int
	nak    bool
}

// timed is an element of a queue that arrives in a certain step.
type timed[T any] struct {
	value T
	at    int
}

// put puts an element into a queue, as often as count says: not at all, once or twice.
func put[T any](queue []timed[T], value T, at, count int) []timed[T] {
	for range count {
		queue = append(queue, timed[T]{value, at})
	}
	return queue
}

// line is a sender and a receiver with a queue in each direction; what is put into one
// arrives delay steps later, as often as count says.
type line struct {
	t           *testing.T
	s           *Sender
	r           *Receiver
	delay, now  int
	count       func() int
	nak         func(accepted bool) bool
	packets     []timed[packet]
	acks        []timed[ack]
	offered     []string
	acceptedNow int
}

func newLine(t *testing.T, window, timeout, delay int) *line {
	return &line{t: t, s: newSender(t, window, timeout), r: NewReceiver(), delay: delay,
		count: func() int { return 1 }, nak: func(bool) bool { return false }}
}

func (l *line) offer(data []byte) {
	if l.s.Offer(data) == api.OK {
		l.offered = append(l.offered, string(data))
	}
}

// take gives the packets that arrive to the receiver, which answers each of them.
func (l *line) take() {
	for len(l.packets) > 0 && l.packets[0].at <= l.now {
		p := l.packets[0].value
		l.packets = l.packets[1:]
		data, ok := l.r.Receive(p.number, []byte(p.data))
		if ok {
			if l.acceptedNow == len(l.offered) || l.offered[l.acceptedNow] != string(data) {
				l.t.Fatalf("%q is accepted as the packet %d of %d", data, l.acceptedNow, len(l.offered))
			}
			l.acceptedNow++
		}
		l.acks = put(l.acks, ack{l.r.Expected(), l.nak(ok)}, l.now+l.delay, l.count())
	}
}

// step lets one tick pass.
func (l *line) step() {
	l.now++
	if number, data, ok := l.s.Tick(); ok {
		l.packets = put(l.packets, packet{number, string(data)}, l.now+l.delay, l.count())
	}
	l.take()
	for len(l.acks) > 0 && l.acks[0].at <= l.now {
		if l.acks[0].value.nak {
			l.s.Nak(l.acks[0].value.number)
		} else {
			l.s.Ack(l.acks[0].value.number)
		}
		l.acks = l.acks[1:]
	}
	taken, acknowledged := l.s.Total()
	if l.r.Total() != l.acceptedNow || taken != len(l.offered) || acknowledged > l.acceptedNow || l.s.Kept() != taken-acknowledged {
		l.t.Fatal(l.r.Total(), l.acceptedNow, taken, len(l.offered), acknowledged, l.s.Kept())
	}
}

// finish loses nothing any more, and checks that everything is accepted and acknowledged:
// the oldest packet is sent at the latest after the other ones and the timeout, and its
// acknowledgment, or that of a later one, arrives after both delays.
func (l *line) finish(window, timeout int) {
	for range (l.s.Kept() + 1) * (window + timeout + 2*l.delay + 1) {
		l.step()
	}
	if _, acknowledged := l.s.Total(); l.acceptedNow != len(l.offered) || acknowledged != len(l.offered) || l.s.Kept() != 0 {
		l.t.Fatal(l.acceptedNow, acknowledged, len(l.offered))
	}
}

// For each of the first transmissions of both directions, all ways of losing, carrying and doubling it.
func TestAllWaysOfLosingAndDoubling(t *testing.T) {
	const first, ways = 9, 19683 // 3 to the power of 9
	for _, c := range []struct{ window, timeout, delay int }{{1, 1, 1}, {2, 1, 2}, {2, 3, 1}, {3, 2, 0}} {
		for way := range ways {
			l := newLine(t, c.window, c.timeout, c.delay)
			rest, used := way, 0
			l.count = func() int {
				if used == first {
					return 1
				}
				used++
				count := rest % 3
				rest /= 3
				return count
			}
			for i := 0; used < first && l.now < 100; i++ {
				l.offer([]byte{byte(i)})
				l.step()
			}
			l.finish(c.window, c.timeout)
		}
	}
}

// Hundreds of packets, so that numbers occur again, over queues of different lengths,
// with Nak for none, for all, and for those packets that were not accepted.
func TestLosingAndDoubling(t *testing.T) {
	naks := []func(bool) bool{
		func(bool) bool { return false },
		func(bool) bool { return true },
		func(accepted bool) bool { return !accepted },
	}
	for seed, c := range []struct{ window, timeout, delay int }{
		{1, 1, 0}, {1, 2, 3}, {2, 3, 1}, {7, 1, 2}, {7, 20, 5}, {64, 1, 40}, {127, 5, 3}, {128, 1, 0}, {128, 1, 100}, {128, 30, 10},
	} {
		for kind, nak := range naks {
			for _, lost := range []int{0, 10, 30, 60, 90} {
				l := newLine(t, c.window, c.timeout, c.delay)
				roll := dice(1000*seed + 10*lost + kind)
				bad := true
				l.nak = nak
				l.count = func() int {
					if k := roll(100); k < lost && bad {
						return 0
					} else if k >= 90 {
						return 2 // also when nothing is lost any more
					}
					return 1
				}
				for i := range 900 {
					if i >= 600 && i < 700 {
						lost = 100
					} else if i == 700 {
						lost = 50
					}
					l.offer(sample(1+roll(64), i))
					l.offer(sample(roll(65), -i))
					l.step()
				}
				bad = false
				l.finish(c.window, c.timeout)
			}
		}
	}
}

// Without losses and with a window that covers the delays, there is a packet in each tick, and many more than 256 of them.
func TestNothingLost(t *testing.T) {
	l := newLine(t, 128, 200, 60)
	for i := range 2000 {
		l.offer(sample(64, i))
		l.step()
	}
	if len(l.offered) != 2000 || l.acceptedNow != 1940 {
		t.Error(len(l.offered), l.acceptedNow)
	}
	l.finish(128, 200)
}

// P1

func TestSameCallsHaveTheSameResults(t *testing.T) {
	a, b := newSender(t, 4, 2), newSender(t, 4, 2)
	roll := dice(7)
	for range 5000 {
		k, data := roll(4), sample(roll(70), roll(1000))
		number := roll(300) - 20
		switch k {
		case 0:
			if x, y := a.Offer(data), b.Offer(data); x != y {
				t.Fatal(x, y)
			}
		case 1:
			n, x, ok := a.Tick()
			m, y, too := b.Tick()
			if n != m || !bytes.Equal(x, y) || ok != too {
				t.Fatal(n, x, ok, m, y, too)
			}
		case 2:
			if x, y := a.Ack(number), b.Ack(number); x != y {
				t.Fatal(x, y)
			}
		case 3:
			if x, y := a.Nak(number), b.Nak(number); x != y {
				t.Fatal(x, y)
			}
		}
	}
}

// Values that the New functions have not made do no harm.
func TestZeroValues(t *testing.T) {
	var s Sender
	for range 3 {
		s.Offer([]byte("x"))
		s.Tick()
		for _, number := range []int{math.MinInt, -1, 0, 1, 255, 256, math.MaxInt} {
			s.Ack(number)
			s.Nak(number)
		}
		s.Kept()
		s.Total()
	}
	var r Receiver
	for _, number := range []int{math.MinInt, -1, 0, 1, 255, 256, math.MaxInt} {
		r.Receive(number, nil)
		r.Expected()
		r.Total()
	}
}
