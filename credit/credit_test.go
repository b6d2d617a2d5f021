package credit_test

import (
	"fmt"
	"math"
	"slices"
	"testing"

	"fairlink/api"
	. "fairlink/credit"
)

// dice returns a function that returns numbers from 0 to n-1 without a visible pattern,
// other ones for each seed.
func dice(seed int) func(n int) int {
	x := uint64(seed)*2654435761 + 12345
	return func(n int) int {
		x = x*6364136223846793005 + 1442695040888963407
		return int(x >> 33 % uint64(n))
	}
}

// noClasses are numbers that no giver or taker with this many classes has as a class.
func noClasses(classes int) []int {
	return []int{math.MinInt, -1 << 32, -classes - 1, -classes, -1, classes, classes + 1, api.MaxClasses, api.MaxClasses + 1, 1 << 32, math.MaxInt}
}

func newGiver(t *testing.T, room ...int) *Giver {
	t.Helper()
	g, e := NewGiver(room)
	if e != api.OK || g == nil {
		t.Fatal(room, e)
	}
	return g
}

func newTaker(t *testing.T, classes int) *Taker {
	t.Helper()
	s, e := NewTaker(classes)
	if e != api.OK || s == nil {
		t.Fatal(classes, e)
	}
	return s
}

func checkGiver(t *testing.T, g *Giver, class, limit, held int) {
	t.Helper()
	if g.Limit(class) != limit || g.Held(class) != held {
		t.Fatalf("class %d: limit %d, held %d, not %d, %d", class, g.Limit(class), g.Held(class), limit, held)
	}
}

func checkTaker(t *testing.T, s *Taker, class, sent, left int) {
	t.Helper()
	if s.Sent(class) != sent || s.Left(class) != left {
		t.Fatalf("class %d: sent %d, left %d, not %d, %d", class, s.Sent(class), s.Left(class), sent, left)
	}
}

func check(t *testing.T, what string, e, want api.Errno) {
	t.Helper()
	if e != want {
		t.Fatalf("%s: %d, not %d", what, e, want)
	}
}

// times calls f n times, which returns OK.
func times(t *testing.T, n int, f func(int) api.Errno, class int) {
	t.Helper()
	for i := range n {
		if e := f(class); e != api.OK {
			t.Fatalf("class %d, call %d of %d: %d", class, i, n, e)
		}
	}
}

func checkAudit(t *testing.T, g *Giver, class, sent, lost int, want api.Errno) {
	t.Helper()
	if n, e := g.Audit(class, sent); n != lost || e != want {
		t.Fatalf("Audit(%d, %d): %d, %d, not %d, %d", class, sent, n, e, lost, want)
	}
}

// giverModel follows the definitions with a list of all frames that were received, by
// whether they were freed.
type giverModel struct {
	room  int
	freed []bool
}

func (m *giverModel) count(freed bool) int {
	n := 0
	for _, f := range m.freed {
		if f == freed {
			n++
		}
	}
	return n
}

func (m *giverModel) limit() int {
	return m.room + m.count(true)
}

func (m *giverModel) receive() api.Errno {
	if m.count(false) == m.room {
		return api.ErrFull
	}
	m.freed = append(m.freed, false)
	return api.OK
}

func (m *giverModel) free() api.Errno {
	i := slices.Index(m.freed, false)
	if i < 0 {
		return api.ErrNone
	}
	m.freed[i] = true
	return api.OK
}

func (m *giverModel) audit(sent int) (int, api.Errno) {
	if sent < len(m.freed) || sent > m.limit() {
		return 0, api.ErrRange
	}
	lost := 0
	for len(m.freed) < sent {
		m.freed = append(m.freed, true)
		lost++
	}
	return lost, api.OK
}

// takerModel follows the definitions with a list of all limits that were heard.
type takerModel struct {
	heard []int
	sent  int
}

func (m *takerModel) limit() int {
	return slices.Max(append([]int{0}, m.heard...))
}

func (m *takerModel) raise(limit int) api.Errno {
	if limit < 0 || limit > 1<<40 {
		return api.ErrRange
	}
	m.heard = append(m.heard, limit)
	return api.OK
}

func (m *takerModel) take() api.Errno {
	if m.sent >= m.limit() {
		return api.ErrFull
	}
	m.sent++
	return api.OK
}

// P7.1

func TestNewGiverClasses(t *testing.T) {
	for n := range 10 {
		room := make([]int, n)
		for i := range room {
			room[i] = i + 1
		}
		g, e := NewGiver(room)
		if n < 1 || n > 4 {
			if g != nil || e != api.ErrRange {
				t.Error(n, g, e)
			}
			continue
		}
		if g == nil || e != api.OK {
			t.Fatal(n, g, e)
		}
		for class := range n {
			checkGiver(t, g, class, class+1, 0)
		}
		check(t, "no such class", g.Receive(n), api.ErrRange)
	}
	for _, room := range [][]int{nil, {}, slices.Repeat([]int{1}, 5), slices.Repeat([]int{1}, 8), slices.Repeat([]int{64}, 1000)} {
		if g, e := NewGiver(room); g != nil || e != api.ErrRange {
			t.Error(len(room), g, e)
		}
	}
}

func TestNewGiverRooms(t *testing.T) {
	rooms := map[int]bool{math.MinInt: false, -1 << 32: false, -65: false, -64: false, -2: false, -1: false, 0: false,
		1: true, 2: true, 3: true, 32: true, 63: true, 64: true,
		65: false, 66: false, 128: false, 256: false, 257: false, 1 << 32: false, 1<<32 + 1: false, math.MaxInt: false}
	for n := 1; n <= 4; n++ {
		for at := range n {
			for r, good := range rooms {
				room := slices.Repeat([]int{5}, n)
				room[at] = r
				g, e := NewGiver(room)
				if !good {
					if g != nil || e != api.ErrRange {
						t.Error(room, g, e)
					}
					continue
				}
				if g == nil || e != api.OK {
					t.Fatal(room, g, e)
				}
				for class := range n {
					checkGiver(t, g, class, room[class], 0)
				}
				times(t, r, g.Receive, at)
				check(t, "one too many", g.Receive(at), api.ErrFull)
			}
		}
	}
	for _, room := range [][]int{{0, 65}, {65, 0}, {-1, -1, -1, -1}, {0, 0, 0, 0, 0}, {1, 64, 0, 64}} {
		if g, e := NewGiver(room); g != nil || e != api.ErrRange {
			t.Error(room, g, e)
		}
	}
}

func TestNewGiverKeepsNoList(t *testing.T) {
	backing := []int{3, 1, 64, 2, 9, 9}
	room := backing[:4]
	g := newGiver(t, room...)
	other := newGiver(t, room...)
	if !slices.Equal(backing, []int{3, 1, 64, 2, 9, 9}) {
		t.Fatal("the list was changed:", backing)
	}
	given, e := NewGiver(room)
	check(t, "NewGiver", e, api.OK)
	clear(backing)
	for class, r := range []int{3, 1, 64, 2} {
		checkGiver(t, given, class, r, 0)
		times(t, r, given.Receive, class)
		check(t, "one too many", given.Receive(class), api.ErrFull)
		checkGiver(t, given, class, r, r)
		// givers of the same list share nothing
		checkGiver(t, g, class, r, 0)
		checkGiver(t, other, class, r, 0)
	}
	if !slices.Equal(backing, make([]int, 6)) {
		t.Fatal("the list was changed later:", backing)
	}
}

func TestNewTaker(t *testing.T) {
	for classes, good := range map[int]bool{math.MinInt: false, -4: false, -1: false, 0: false, 1: true, 2: true, 3: true, 4: true,
		5: false, 8: false, 64: false, 256: false, 257: false, 1 << 32: false, 1<<32 + 1: false, math.MaxInt: false} {
		s, e := NewTaker(classes)
		if !good {
			if s != nil || e != api.ErrRange {
				t.Error(classes, s, e)
			}
			continue
		}
		if s == nil || e != api.OK {
			t.Fatal(classes, s, e)
		}
		for class := range classes {
			checkTaker(t, s, class, 0, 0)
		}
		check(t, "no such class", s.Raise(classes, 1), api.ErrRange)
	}
}

func TestTakersShareNothing(t *testing.T) {
	a, b := newTaker(t, 2), newTaker(t, 2)
	check(t, "Raise", a.Raise(1, 3), api.OK)
	check(t, "Take", a.Take(1), api.OK)
	checkTaker(t, a, 1, 1, 2)
	checkTaker(t, b, 1, 0, 0)
}

// P7.2

func TestNil(t *testing.T) {
	var g *Giver
	var s *Taker
	// no class is looked at, nor a number: each of these is ErrArg
	for _, class := range append(noClasses(0), 0, 1, 2, 3, 4) {
		check(t, "Receive", g.Receive(class), api.ErrArg)
		check(t, "Free", g.Free(class), api.ErrArg)
		check(t, "Take", s.Take(class), api.ErrArg)
		checkGiver(t, g, class, 0, 0)
		checkTaker(t, s, class, 0, 0)
		for _, n := range []int{math.MinInt, -1, 0, 1, 64, api.MaxNumber, api.MaxNumber + 1, math.MaxInt} {
			checkAudit(t, g, class, n, 0, api.ErrArg)
			check(t, "Raise", s.Raise(class, n), api.ErrArg)
		}
	}
}

// checkNoClass calls everything with classes that do not exist.
func checkNoClass(t *testing.T, g *Giver, s *Taker, classes int) {
	t.Helper()
	for _, class := range noClasses(classes) {
		if class >= 0 && class < classes {
			continue
		}
		check(t, "Receive", g.Receive(class), api.ErrRange)
		check(t, "Free", g.Free(class), api.ErrRange)
		check(t, "Take", s.Take(class), api.ErrRange)
		checkGiver(t, g, class, 0, 0)
		checkTaker(t, s, class, 0, 0)
		for _, n := range []int{math.MinInt, -1, 0, 1, 2, 64, api.MaxNumber, api.MaxNumber + 1, math.MaxInt} {
			checkAudit(t, g, class, n, 0, api.ErrRange)
			check(t, "Raise", s.Raise(class, n), api.ErrRange)
		}
	}
}

func TestNoSuchClass(t *testing.T) {
	for classes := 1; classes <= 4; classes++ {
		g := newGiver(t, []int{1, 2, 64, 3}[:classes]...)
		s := newTaker(t, classes)
		checkNoClass(t, g, s, classes)
		for class := range classes {
			check(t, "Raise", s.Raise(class, class+5), api.OK)
			check(t, "Receive", g.Receive(class), api.OK)
		}
		// the first and the last class exist, and what was refused changed none
		checkNoClass(t, g, s, classes)
		for class := range classes {
			checkGiver(t, g, class, []int{1, 2, 64, 3}[class], 1)
			checkTaker(t, s, class, 0, class+5)
		}
	}
}

// A value that no New function made has no class.
func TestZeroValue(t *testing.T) {
	checkNoClass(t, new(Giver), new(Taker), 0)
}

// P7.3

func TestReceiveAndFree(t *testing.T) {
	for room := 1; room <= 64; room++ {
		g := newGiver(t, room)
		freed := 0
		check(t, "Free without a frame", g.Free(0), api.ErrNone)
		checkGiver(t, g, 0, room, 0)
		for range 4 {
			for held := range room {
				checkGiver(t, g, 0, room+freed, held)
				check(t, "Receive", g.Receive(0), api.OK)
			}
			for range 3 {
				checkGiver(t, g, 0, room+freed, room)
				check(t, "Receive without room", g.Receive(0), api.ErrFull)
			}
			for held := room; held > 0; held-- {
				checkGiver(t, g, 0, room+freed, held)
				check(t, "Free", g.Free(0), api.OK)
				freed++
			}
			for range 3 {
				checkGiver(t, g, 0, room+freed, 0)
				check(t, "Free without a frame", g.Free(0), api.ErrNone)
			}
		}
	}
}

func TestReceiveAgainAfterFree(t *testing.T) {
	g := newGiver(t, 2)
	times(t, 2, g.Receive, 0)
	for i := range 1000 {
		checkGiver(t, g, 0, 2+i, 2)
		check(t, "Receive", g.Receive(0), api.ErrFull)
		check(t, "Free", g.Free(0), api.OK)
		checkGiver(t, g, 0, 3+i, 1)
		check(t, "Receive", g.Receive(0), api.OK)
	}
}

// The chapter's example.
func TestLimitOfExample(t *testing.T) {
	g := newGiver(t, 2)
	checkGiver(t, g, 0, 2, 0)
	times(t, 2, g.Receive, 0)
	checkGiver(t, g, 0, 2, 2)
	check(t, "Free", g.Free(0), api.OK)
	checkGiver(t, g, 0, 3, 1)
}

// P7.4

// prepare returns a giver with a class with this room, of whose received frames so many
// were freed, and some other classes with frames.
func prepare(t *testing.T, room, received, freed int) *Giver {
	t.Helper()
	g := newGiver(t, 4, room, 64)
	times(t, 3, g.Receive, 0)
	times(t, 1, g.Free, 0)
	times(t, 50, g.Receive, 2)
	for i := range received {
		if i >= room {
			times(t, 1, g.Free, 1)
		}
		times(t, 1, g.Receive, 1)
	}
	times(t, freed-max(received-room, 0), g.Free, 1)
	checkGiver(t, g, 1, room+freed, received-freed)
	return g
}

func TestAudit(t *testing.T) {
	for _, room := range []int{1, 2, 3, 7, 64} {
		for received := range 2*room + 2 {
			for freed := max(received-room, 0); freed <= received; freed++ {
				g := prepare(t, room, received, freed)
				limit, held := room+freed, received-freed
				for _, sent := range []int{math.MinInt, -1 << 40, -1, received - 1, limit + 1, limit + 2, 1 << 32, 1<<32 + received, 1 << 40, math.MaxInt} {
					checkAudit(t, g, 1, sent, 0, api.ErrRange)
					checkGiver(t, g, 1, limit, held)
				}
				for _, sent := range []int{received, (received + limit) / 2, limit} {
					g := prepare(t, room, received, freed)
					checkLoss(t, g, sent, room, received, freed)
				}
			}
		}
	}
}

// checkLoss makes an audit of the class 1 of a giver that prepare made, and examines
// everything that the lost frames have an influence on.
func checkLoss(t *testing.T, g *Giver, sent, room, received, freed int) {
	t.Helper()
	lost, held := sent-received, received-freed
	checkAudit(t, g, 1, sent, lost, api.OK)
	checkGiver(t, g, 1, room+freed+lost, held)
	for range 2 { // they are counted as received: they are not lost again
		checkAudit(t, g, 1, sent, 0, api.OK)
		checkAudit(t, g, 1, sent-1, 0, api.ErrRange)
		checkAudit(t, g, 1, room+freed+lost+1, 0, api.ErrRange)
		checkGiver(t, g, 1, room+freed+lost, held)
	}
	checkGiver(t, g, 0, 5, 2)
	checkGiver(t, g, 2, 64, 50)
	// the held frames are held still, and the rest of the room is free
	times(t, held, g.Free, 1)
	check(t, "Free without a frame", g.Free(1), api.ErrNone)
	checkGiver(t, g, 1, room+sent, 0)
	times(t, room, g.Receive, 1)
	check(t, "Receive without room", g.Receive(1), api.ErrFull)
	checkGiver(t, g, 1, room+sent, room)
}

func TestAuditWhileFull(t *testing.T) {
	g := newGiver(t, 3)
	times(t, 3, g.Receive, 0)
	checkAudit(t, g, 0, 3, 0, api.OK)
	checkAudit(t, g, 0, 4, 0, api.ErrRange)
	check(t, "Receive without room", g.Receive(0), api.ErrFull)
	checkGiver(t, g, 0, 3, 3)
}

// Where all frames are lost again and again, the limit grows by the room each time.
func TestManyAudits(t *testing.T) {
	g := newGiver(t, 64)
	for i := range 5000 {
		checkGiver(t, g, 0, 64*(i+1), 0)
		checkAudit(t, g, 0, 64*(i+1)+1, 0, api.ErrRange)
		checkAudit(t, g, 0, 64*(i+1), 64, api.OK)
	}
}

// P7.5

func TestRaise(t *testing.T) {
	s := newTaker(t, 2)
	greatest := 0
	for i, limit := range []int{0, 0, 1, 1, 0, 1, 5, 4, 5, 3, 0, 6, 6, 6, 2, 255, 256, 1, 1 << 31, 1 << 32, 1<<32 + 1, 1<<32 - 1, 5,
		api.MaxNumber - 1, 0, api.MaxNumber - 2, api.MaxNumber, api.MaxNumber - 1, api.MaxNumber, 1, 0} {
		check(t, fmt.Sprint("Raise ", i), s.Raise(1, limit), api.OK)
		greatest = max(greatest, limit)
		checkTaker(t, s, 1, 0, greatest)
		for _, bad := range []int{math.MinInt, -1 << 40, -1 << 32, -2, -1, api.MaxNumber + 1, api.MaxNumber + 2, 1 << 41, 1<<62 + 1, math.MaxInt} {
			check(t, fmt.Sprint("Raise to ", bad), s.Raise(1, bad), api.ErrRange)
			checkTaker(t, s, 1, 0, greatest)
		}
	}
	checkTaker(t, s, 0, 0, 0)
}

func TestTake(t *testing.T) {
	s := newTaker(t, 1)
	checkTaker(t, s, 0, 0, 0)
	check(t, "Take before any limit", s.Take(0), api.ErrFull)
	check(t, "Raise", s.Raise(0, 0), api.OK)
	check(t, "Take with the limit 0", s.Take(0), api.ErrFull)
	checkTaker(t, s, 0, 0, 0)
	sent := 0
	for _, limit := range []int{1, 2, 5, 6, 70, 71, 300, 1000} {
		check(t, "Raise", s.Raise(0, limit), api.OK)
		for sent < limit {
			checkTaker(t, s, 0, sent, limit-sent)
			check(t, "Take", s.Take(0), api.OK)
			sent++
		}
		for _, late := range []int{0, limit / 2, limit - 1, limit, -1, api.MaxNumber + 1} {
			checkTaker(t, s, 0, limit, 0)
			check(t, "Take at the limit", s.Take(0), api.ErrFull)
			s.Raise(0, late)
		}
		checkTaker(t, s, 0, limit, 0)
	}
}

func TestRaiseWhileTaking(t *testing.T) {
	s := newTaker(t, 1)
	for i := range 500 {
		check(t, "Raise", s.Raise(0, 2*i+2), api.OK)
		check(t, "Take", s.Take(0), api.OK)
		checkTaker(t, s, 0, i+1, i+1)
	}
}

func TestGreatestLimit(t *testing.T) {
	s := newTaker(t, 1)
	check(t, "Raise", s.Raise(0, api.MaxNumber), api.OK)
	for i := range 3000 {
		checkTaker(t, s, 0, i, api.MaxNumber-i)
		check(t, "Take", s.Take(0), api.OK)
		check(t, "Raise", s.Raise(0, api.MaxNumber+1), api.ErrRange)
		check(t, "Raise", s.Raise(0, api.MaxNumber), api.OK)
	}
}

// P7.3 and P7.4, compared with a list of frames

// Calls of the giver, and, from audits on, audits with numbers near those that count.
const (
	receive = iota
	free
	audits
)

// sentNumbers returns the arguments of audits, from the received frames to the limit.
func sentNumbers(received, limit int) []int {
	return []int{received - 1, received, received + 1, limit - 1, limit, limit + 1}
}

// callGiver makes a call of the giver and of the model, and compares them.
func callGiver(t *testing.T, g *Giver, class int, m *giverModel, call int) {
	t.Helper()
	var n, wantN int
	var e, want api.Errno
	switch call {
	case receive:
		e, want = g.Receive(class), m.receive()
	case free:
		e, want = g.Free(class), m.free()
	default:
		sent := sentNumbers(len(m.freed), m.limit())[call-audits]
		n, e = g.Audit(class, sent)
		wantN, want = m.audit(sent)
	}
	if n != wantN || e != want {
		t.Fatalf("call %d in class %d: %d, %d, not %d, %d", call, class, n, e, wantN, want)
	}
	checkGiver(t, g, class, m.limit(), m.count(false))
}

// sequences calls f with all lists of n numbers from 0 to base-1.
func sequences(base, n int, f func(list []int)) {
	list := make([]int, n)
	for {
		f(list)
		i := 0
		for i < n && list[i] == base-1 {
			list[i] = 0
			i++
		}
		if i == n {
			return
		}
		list[i]++
	}
}

func TestGiverAllCalls(t *testing.T) {
	calls := audits + len(sentNumbers(0, 0))
	for room := 1; room <= 3; room++ {
		sequences(calls, 5, func(list []int) {
			g := newGiver(t, 9, room)
			m := &giverModel{room: room}
			for _, call := range list {
				callGiver(t, g, 1, m, call)
			}
			checkGiver(t, g, 0, 9, 0)
		})
	}
}

func TestGiverLongRuns(t *testing.T) {
	for seed := range 60 {
		roll := dice(seed)
		room := make([]int, 1+roll(4))
		models := make([]*giverModel, len(room))
		for i := range room {
			room[i] = 1 + roll([]int{3, 64}[seed%2])
			models[i] = &giverModel{room: room[i]}
		}
		g := newGiver(t, room...)
		for i := range 2000 {
			class := roll(len(room))
			call := roll(audits)
			if roll(8) == 0 {
				call = roll(audits + 6)
			}
			if i/100%2 == seed%2 && roll(2) == 0 { // full buffers, then empty ones
				call = i / 200 % 2
			}
			callGiver(t, g, class, models[class], call)
			for other, m := range models {
				checkGiver(t, g, other, m.limit(), m.count(false))
			}
		}
	}
}

// P7.5, compared with a list of limits

func callTaker(t *testing.T, s *Taker, class int, m *takerModel, limit int, raise bool) {
	t.Helper()
	var e, want api.Errno
	if raise {
		e, want = s.Raise(class, limit), m.raise(limit)
	} else {
		e, want = s.Take(class), m.take()
	}
	if e != want {
		t.Fatalf("class %d, limit %d: %d, not %d", class, limit, e, want)
	}
	checkTaker(t, s, class, m.sent, m.limit()-m.sent)
}

func TestTakerAllCalls(t *testing.T) {
	limits := []int{-1, 0, 1, 2, 3, api.MaxNumber, api.MaxNumber + 1}
	sequences(len(limits)+1, 5, func(list []int) {
		s := newTaker(t, 2)
		m := &takerModel{}
		for _, call := range list {
			callTaker(t, s, 0, m, limits[call%len(limits)], call < len(limits))
		}
		checkTaker(t, s, 1, 0, 0)
	})
}

func TestTakerLongRuns(t *testing.T) {
	for seed := range 40 {
		roll := dice(seed)
		classes := 1 + roll(4)
		s := newTaker(t, classes)
		models := make([]*takerModel, classes)
		for i := range models {
			models[i] = &takerModel{}
		}
		for range 1000 {
			class := roll(classes)
			m := models[class]
			limit := m.limit() + roll(9) - 5
			if roll(50) == 0 {
				limit = []int{math.MinInt, math.MaxInt, 1<<40 + 1, -1 << 32}[roll(4)]
			}
			callTaker(t, s, class, m, limit, roll(3) == 0)
			for other, m := range models {
				checkTaker(t, s, other, m.sent, m.limit()-m.sent)
			}
		}
	}
}

// P7.6

// world is a giver and a taker, with a way for frames and one for limits between them.
type world struct {
	t      *testing.T
	g      *Giver
	s      *Taker
	room   []int
	way    []int   // of each class: frames that were sent, and neither received nor lost
	lost   []int   // of each class: lost frames that no audit has counted yet
	limits [][]int // of each class: all limits that the giver had
}

func newWorld(t *testing.T, room ...int) *world {
	t.Helper()
	w := &world{t: t, g: newGiver(t, room...), s: newTaker(t, len(room)), room: room}
	w.way = make([]int, len(room))
	w.lost = make([]int, len(room))
	w.limits = make([][]int, len(room))
	for class := range room {
		w.note(class)
	}
	return w
}

// note puts down the limit that the giver has.
func (w *world) note(class int) {
	w.limits[class] = append(w.limits[class], w.g.Limit(class))
}

func (w *world) send(class int) {
	if w.s.Take(class) == api.OK {
		w.way[class]++
	}
}

func (w *world) deliver(class int) {
	w.t.Helper()
	if w.way[class] == 0 {
		return
	}
	w.way[class]--
	if e := w.g.Receive(class); e != api.OK {
		w.t.Fatalf("class %d: a frame that was sent is not received: %d", class, e)
	}
	if w.g.Held(class) > w.room[class] {
		w.t.Fatalf("class %d: the buffer overflows: %d", class, w.g.Held(class))
	}
}

func (w *world) lose(class int) {
	if w.way[class] > 0 {
		w.way[class]--
		w.lost[class]++
	}
}

func (w *world) free(class int) {
	if w.g.Free(class) == api.OK {
		w.note(class)
	}
}

// hear lets the taker hear one of the limits that the giver had, the index counted
// from the present one back.
func (w *world) hear(class, back int) {
	w.t.Helper()
	if n := len(w.limits[class]); back < n {
		check(w.t, "Raise", w.s.Raise(class, w.limits[class][n-1-back]), api.OK)
	}
}

// audit is made if nothing is under way.
func (w *world) audit(class int) {
	w.t.Helper()
	if w.way[class] == 0 {
		held := w.g.Held(class)
		checkAudit(w.t, w.g, class, w.s.Sent(class), w.lost[class], api.OK)
		w.lost[class] = 0
		w.note(class)
		checkGiver(w.t, w.g, class, w.s.Sent(class)-held+w.room[class], held)
	}
}

// settle lets everything arrive, and compares the credits with the room.
func (w *world) settle(class int) {
	w.t.Helper()
	for w.way[class] > 0 {
		w.deliver(class)
	}
	w.hear(class, 0)
	if got, want := w.s.Left(class), w.room[class]-w.g.Held(class)-w.lost[class]; got != want {
		w.t.Fatalf("class %d: %d left, not %d, of lost ones %d", class, got, want, w.lost[class])
	}
	w.audit(class)
	w.hear(class, 0)
	if got, want := w.s.Left(class), w.room[class]-w.g.Held(class); got != want {
		w.t.Fatalf("class %d: %d left after an audit, not %d", class, got, want)
	}
}

// All ways of what may happen next, in a small world.
func TestCreditsAllWays(t *testing.T) {
	for room := 1; room <= 2; room++ {
		sequences(7, 6, func(list []int) {
			w := newWorld(t, room)
			w.hear(0, 0)
			for range 2 {
				w.send(0)
			}
			for _, what := range list {
				switch what {
				case 0:
					w.send(0)
				case 1:
					w.deliver(0)
				case 2:
					w.lose(0)
				case 3:
					w.free(0)
				case 4:
					w.audit(0)
				default:
					w.hear(0, what-5)
				}
			}
			w.settle(0)
		})
	}
}

// step lets one thing happen in a class, by a roll of the dice.
func (w *world) step(class int, roll func(int) int, losses bool) {
	w.t.Helper()
	switch roll(9) {
	case 0, 1, 2:
		for range 1 + roll(6) {
			w.send(class)
		}
	case 3:
		w.deliver(class)
	case 4:
		for range roll(2 * w.room[class]) {
			w.deliver(class)
		}
	case 5:
		for range roll(2 * w.room[class]) {
			w.free(class)
		}
	case 6:
		if losses {
			w.lose(class)
		}
	case 7: // late and repeated limits, in any order, while others are never heard
		for range 1 + roll(3) {
			w.hear(class, roll(len(w.limits[class])))
		}
	case 8:
		w.hear(class, roll(3))
		w.audit(class)
	}
}

func TestCreditsLongRuns(t *testing.T) {
	for seed := range 80 {
		roll := dice(seed)
		room := make([]int, 1+roll(4))
		for i := range room {
			room[i] = 1 + roll([]int{4, 64}[seed%2])
		}
		w := newWorld(t, room...)
		for i := range 3000 {
			class := roll(len(room))
			w.step(class, roll, seed%4 < 2)
			if i%500 == 499 {
				w.settle(class)
			}
		}
		for class := range room {
			w.settle(class)
		}
	}
}

// Without losses no audit is needed, and the credits return with the present limit
// alone, after all the others were lost.
func TestCreditsWithoutAudit(t *testing.T) {
	w := newWorld(t, 5)
	for round := range 50 {
		w.hear(0, 0)
		for range 9 {
			w.send(0)
		}
		for w.way[0] > 0 {
			w.deliver(0)
		}
		checkTaker(t, w.s, 0, 5*(round+1), 0)
		for held := 5; held > 0; held-- {
			w.hear(0, 0)
			checkTaker(t, w.s, 0, 5*(round+1), 5-held)
			w.free(0)
		}
	}
}

// Lost frames use up the credits, until an audit gives them back.
func TestCreditsLostAndAudited(t *testing.T) {
	w := newWorld(t, 3, 3)
	for round := range 20 {
		w.hear(0, 0)
		for range 3 {
			w.send(0)
			w.lose(0)
		}
		w.hear(0, 0)
		checkTaker(t, w.s, 0, 3*(round+1), 0)
		check(t, "Take", w.s.Take(0), api.ErrFull)
		w.audit(0)
		checkTaker(t, w.s, 0, 3*(round+1), 0) // it has not heard of it yet
		w.hear(0, 0)
		checkTaker(t, w.s, 0, 3*(round+1), 3)
	}
	checkGiver(t, w.g, 1, 3, 0)
	checkTaker(t, w.s, 1, 0, 0)
}

// trace makes calls in some classes, and returns their results by class.
func trace(t *testing.T, room []int, calls [][3]int, only int) [][]string {
	t.Helper()
	g, s := newGiver(t, room...), newTaker(t, len(room))
	results := make([][]string, len(room))
	for _, call := range calls {
		class, what, n := call[0], call[1], call[2]
		if only >= 0 && class != only {
			continue
		}
		lost, e := 0, api.OK
		switch what {
		case 0:
			e = g.Receive(class)
		case 1:
			e = g.Free(class)
		case 2:
			lost, e = g.Audit(class, n)
		case 3:
			e = s.Raise(class, n)
		case 4:
			e = s.Take(class)
		}
		results[class] = append(results[class], fmt.Sprint(lost, e, g.Limit(class), g.Held(class), s.Sent(class), s.Left(class)))
	}
	return results
}

// Classes do not influence each other: each of them has the results that it has alone.
// The same calls have the same results.
func TestClassesAlone(t *testing.T) {
	for seed := range 20 {
		roll := dice(seed)
		room := []int{1 + roll(5), 1 + roll(5), 1 + roll(64), 64}
		calls := make([][3]int, 4000)
		for i := range calls {
			calls[i] = [3]int{roll(4), roll(5), roll(i/4 + 2)}
		}
		together := trace(t, room, calls, -1)
		again := trace(t, room, calls, -1)
		for class := range room {
			if !slices.Equal(together[class], again[class]) {
				t.Fatal("not the same results again in class", class)
			}
			alone := trace(t, room, calls, class)
			if !slices.Equal(together[class], alone[class]) {
				t.Fatal("not the same results alone in class", class)
			}
		}
	}
}

// P1

func TestAllArguments(t *testing.T) {
	numbers := []int{math.MinInt, math.MinInt + 1, -1 << 40, -65, -1, 0, 1, 2, 3, 4, 5, 63, 64, 65, 1 << 31, 1 << 32, 1<<32 + 1,
		api.MaxNumber - 1, api.MaxNumber, api.MaxNumber + 1, 1 << 62, math.MaxInt - 1, math.MaxInt}
	g, s := newGiver(t, 1, 64, 3), newTaker(t, 3)
	for _, a := range numbers {
		NewTaker(a)
		for _, b := range numbers {
			NewGiver([]int{a, b})
			for _, h := range []*Giver{g, nil, {}} {
				h.Receive(a)
				n, e := h.Audit(a, b)
				h.Free(a)
				if n < 0 || e != api.OK && n != 0 || h.Held(a) < 0 || h.Held(a) > 64 || h.Limit(a) < h.Held(a) || h.Limit(a) > api.MaxNumber {
					t.Fatal(a, b, n, e, h.Held(a), h.Limit(a))
				}
			}
			for _, u := range []*Taker{s, nil, {}} {
				u.Take(a)
				u.Raise(a, b)
				if u.Sent(a) < 0 || u.Left(a) < 0 || u.Sent(a)+u.Left(a) > api.MaxNumber {
					t.Fatal(a, b, u.Sent(a), u.Left(a))
				}
			}
		}
	}
}
