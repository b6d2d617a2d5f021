package linkup_test

import (
	"fmt"
	"math"
	"slices"
	"testing"

	"fairlink/api"
	. "fairlink/linkup"
)

// greatest is the greatest incarnation.
const greatest = 1<<40 - 1

// dice returns a function that returns numbers from 0 to n-1 without a visible pattern,
// other ones for each seed.
func dice(seed int) func(n int) int {
	x := uint64(seed)*2654435761 + 12345
	return func(n int) int {
		x = x*6364136223846793005 + 1442695040888963407
		return int(x >> 33 % uint64(n))
	}
}

// sequences calls f with all lists of n numbers from 0 to base-1.
func sequences(base, n int, f func(list []int)) {
	list := make([]int, n)
	for {
		f(list)
		i := 0
		for i < n && list[i] == base-1 {
			list[i] = 0
			i++
		}
		if i == n {
			return
		}
		list[i]++
	}
}

// noIncarnations are numbers that no node has as its incarnation.
func noIncarnations() []int {
	return []int{math.MinInt, math.MinInt + 1, -1 << 40, -1<<40 + 1, -1 << 32, -7, -1, 0,
		1 << 40, 1<<40 + 1, 1<<40 + 7, 1 << 41, 1 << 62, math.MaxInt - 1, math.MaxInt}
}

func newSide(t *testing.T, incarnation, dead int) *Side {
	t.Helper()
	s, e := New(incarnation, dead)
	if e != api.OK || s == nil {
		t.Fatal(incarnation, dead, e)
	}
	return s
}

// face is all that can be seen of a side.
type face struct {
	state, peer, changes int
}

func faceOf(s *Side) face {
	return face{s.State(), s.Peer(), s.Changes()}
}

// checkFace compares all that can be seen of a side, also with what it accepts.
func checkFace(t *testing.T, s *Side, want face) {
	t.Helper()
	if got := faceOf(s); got != want {
		t.Fatalf("state, peer, changes: %v, not %v", got, want)
	}
	checkAccepts(t, s, want.peer)
}

// checkAccepts checks that the side accepts the peer's incarnation and no other one.
func checkAccepts(t *testing.T, s *Side, peer int) {
	t.Helper()
	for _, n := range append(noIncarnations(), 1, 2, 3, peer-1, peer, peer+1, peer+1<<32, -peer, greatest-1, greatest) {
		if want := peer != 0 && n == peer; s.Accepts(n) != want {
			t.Fatalf("peer %d: Accepts(%d) is %t", peer, n, !want)
		}
	}
}

func checkReceive(t *testing.T, s *Side, g Greeting, changed bool, want face) {
	t.Helper()
	if got := s.Receive(g); got != changed {
		t.Fatalf("Receive(%v): %t, not %t", g, got, changed)
	}
	checkFace(t, s, want)
}

func checkTick(t *testing.T, s *Side, g Greeting, want face) {
	t.Helper()
	if got := s.Tick(); got != g {
		t.Fatalf("Tick: %v, not %v", got, g)
	}
	checkFace(t, s, want)
}

// event is a tick, or a greeting that is received.
type event struct {
	tick bool
	g    Greeting
}

// model follows the definitions with the list of all events from the beginning on, from
// which everything else is found anew each time.
type model struct {
	incarnation, dead int
	past              []event
}

// heard returns the last greeting that was not ignored, and how many ticks there were
// since; or false.
func (m *model) heard() (g Greeting, silent int, ok bool) {
	seen := 1
	for _, e := range m.past {
		switch {
		case e.tick:
			silent++
		case e.g.Mine >= seen && e.g.Mine <= greatest:
			g, silent, ok = e.g, 0, true
			seen = e.g.Mine
		}
	}
	return g, silent, ok
}

func (m *model) standing() (state, peer int) {
	g, silent, ok := m.heard()
	if !ok || silent >= m.dead {
		return Down, 0
	}
	if g.Yours == m.incarnation {
		return Up, g.Mine
	}
	return Greeted, g.Mine
}

// add adds an event and reports whether the state or the peer changed.
func (m *model) add(e event) bool {
	state, peer := m.standing()
	m.past = append(m.past, e)
	nextState, nextPeer := m.standing()
	return state != nextState || peer != nextPeer
}

// compare performs the events with a side and with the model.
func compare(t *testing.T, incarnation, dead int, events []event) {
	t.Helper()
	s := newSide(t, incarnation, dead)
	m := &model{incarnation: incarnation, dead: dead}
	changes := 0
	for i, e := range events {
		changed := m.add(e)
		if changed {
			changes++
		}
		state, peer := m.standing()
		if e.tick {
			if g := s.Tick(); g != (Greeting{incarnation, peer}) {
				t.Fatalf("dead %d, %v: event %d sends %v", dead, events, i, g)
			}
		} else if s.Receive(e.g) != changed {
			t.Fatalf("dead %d, %v: event %d reports %t", dead, events, i, !changed)
		}
		if want := (face{state, peer, changes}); faceOf(s) != want {
			t.Fatalf("dead %d, %v: after event %d %v, not %v", dead, events, i, faceOf(s), want)
		}
		for n := range 6 {
			if want := peer != 0 && n == peer; s.Accepts(n) != want {
				t.Fatalf("dead %d, %v: after event %d Accepts(%d) is %t", dead, events, i, n, !want)
			}
		}
	}
}

// P8.1

func TestNew(t *testing.T) {
	incarnations := map[int]bool{1: true, 2: true, 7: true, 1000: true, 1001: true, 1 << 32: true, 1<<32 + 1: true, 1<<40 - 2: true, 1<<40 - 1: true}
	for _, n := range noIncarnations() {
		incarnations[n] = false
	}
	deads := map[int]bool{math.MinInt: false, -1 << 32: false, -1000: false, -2: false, -1: false, 0: false,
		1: true, 2: true, 3: true, 500: true, 999: true, 1000: true,
		1001: false, 1002: false, 1024: false, 1 << 32: false, 1<<32 + 1: false, 1 << 40: false, math.MaxInt: false}
	for incarnation, good := range incarnations {
		for dead, well := range deads {
			s, e := New(incarnation, dead)
			if !good || !well {
				if s != nil || e != api.ErrRange {
					t.Error(incarnation, dead, s, e)
				}
				continue
			}
			if s == nil || e != api.OK {
				t.Fatal(incarnation, dead, s, e)
			}
			checkFace(t, s, face{Down, 0, 0})
			checkTick(t, s, Greeting{incarnation, 0}, face{Down, 0, 0})
		}
	}
}

func TestConstants(t *testing.T) {
	if MaxDead != 1000 || Down != 0 || Greeted != 1 || Up != 2 {
		t.Error(MaxDead, Down, Greeted, Up)
	}
}

func TestSidesShareNothing(t *testing.T) {
	a, b := newSide(t, 5, 2), newSide(t, 5, 2)
	checkReceive(t, a, Greeting{9, 5}, true, face{Up, 9, 1})
	checkFace(t, b, face{Down, 0, 0})
	checkReceive(t, b, Greeting{3, 0}, true, face{Greeted, 3, 1})
	checkTick(t, a, Greeting{5, 9}, face{Up, 9, 1})
	checkTick(t, a, Greeting{5, 0}, face{Down, 0, 2})
	checkTick(t, b, Greeting{5, 3}, face{Greeted, 3, 1})
}

// P8.2

func TestExample(t *testing.T) {
	s := newSide(t, 5, 3)
	checkTick(t, s, Greeting{5, 0}, face{Down, 0, 0})
	checkReceive(t, s, Greeting{7, 0}, true, face{Greeted, 7, 1})
	checkTick(t, s, Greeting{5, 7}, face{Greeted, 7, 1})
	checkReceive(t, s, Greeting{7, 5}, true, face{Up, 7, 2})
	checkReceive(t, s, Greeting{6, 5}, false, face{Up, 7, 2})
}

// What is received by a new side, for each incarnation of its own.
func TestReceiveFirst(t *testing.T) {
	for _, own := range []int{1, 2, 5, 1 << 32, greatest - 1, greatest} {
		for _, yours := range []int{math.MinInt, -own, -1, 0, own - 1, own, own + 1, own + 1<<32, own + 1<<40, 1 << 40, math.MaxInt} {
			state := Greeted
			if yours == own {
				state = Up
			}
			for _, mine := range []int{1, 2, own, 1 << 32, greatest - 1, greatest} {
				s := newSide(t, own, 1)
				checkReceive(t, s, Greeting{mine, yours}, true, face{state, mine, 1})
				checkReceive(t, s, Greeting{mine, yours}, false, face{state, mine, 1})
			}
			for _, mine := range noIncarnations() {
				s := newSide(t, own, 1)
				checkReceive(t, s, Greeting{mine, yours}, false, face{Down, 0, 0})
				checkTick(t, s, Greeting{own, 0}, face{Down, 0, 0})
			}
		}
	}
}

// What is received by a side that knows a peer, that it is Up with or not.
func TestReceiveNext(t *testing.T) {
	const own = 5
	for _, seen := range []int{1, 2, 4, 5, 6, 1 << 32, greatest - 1, greatest} {
		for _, state := range []int{Greeted, Up} {
			first := Greeting{seen, 0}
			if state == Up {
				first.Yours = own
			}
			for _, yours := range []int{-1 << 40, -own, -1, 0, 1, own - 1, own, own + 1, 1 << 40} {
				next := Greeted
				if yours == own {
					next = Up
				}
				mines := append(noIncarnations(), 1, 2, 3, 4, 5, 6, 7, 1<<32, seen-1, seen, seen+1, greatest-2, greatest-1, greatest)
				for _, mine := range mines {
					s := newSide(t, own, 4)
					checkReceive(t, s, first, true, face{state, seen, 1})
					switch {
					case mine < seen || mine > greatest:
						checkReceive(t, s, Greeting{mine, yours}, false, face{state, seen, 1})
					case mine == seen && next == state:
						checkReceive(t, s, Greeting{mine, yours}, false, face{state, seen, 1})
					default: // the state, the peer, or both
						checkReceive(t, s, Greeting{mine, yours}, true, face{next, mine, 2})
					}
				}
			}
		}
	}
}

// The greatest incarnation that was seen is remembered when the peer is lost by silence.
func TestReceiveAfterSilence(t *testing.T) {
	for _, dead := range []int{1, 2, 3} {
		for _, rest := range []int{0, 1, 10} {
			for _, seen := range []int{1, 2, 6, greatest} {
				for _, mine := range append(noIncarnations(), 1, 2, seen-1, seen, seen+1, greatest-1, greatest) {
					s := newSide(t, 5, dead)
					s.Receive(Greeting{seen, 5})
					for range dead + rest {
						s.Tick()
					}
					checkFace(t, s, face{Down, 0, 2})
					if mine >= seen && mine <= greatest {
						checkReceive(t, s, Greeting{mine, 5}, true, face{Up, mine, 3})
					} else {
						checkReceive(t, s, Greeting{mine, 5}, false, face{Down, 0, 2})
						checkReceive(t, s, Greeting{seen, 0}, true, face{Greeted, seen, 3})
					}
				}
			}
		}
	}
}

// Without a peer, ticks are not counted: there is no one to be silent.
func TestTickWithoutPeer(t *testing.T) {
	for _, dead := range []int{1, 2, 3, 999, 1000} {
		s := newSide(t, 8, dead)
		for range 2*dead + 1 {
			checkTick(t, s, Greeting{8, 0}, face{Down, 0, 0})
		}
		s.Receive(Greeting{3, 0})
		for range dead - 1 {
			checkTick(t, s, Greeting{8, 3}, face{Greeted, 3, 1})
		}
		for range 2*dead + 1 {
			checkTick(t, s, Greeting{8, 0}, face{Down, 0, 2})
		}
		s.Receive(Greeting{3, 8})
		for range dead - 1 {
			checkTick(t, s, Greeting{8, 3}, face{Up, 3, 3})
		}
		checkTick(t, s, Greeting{8, 0}, face{Down, 0, 4})
	}
}

// The tick that is dead ticks after the last greeting makes a side Down, and no earlier
// one; every greeting that is not ignored begins the count anew.
func TestTickAfterGreetings(t *testing.T) {
	for dead := 1; dead <= MaxDead; dead += 1 + dead/8*3 {
		for _, silent := range []int{0, 1, dead / 2, dead - 2, dead - 1} {
			silent = max(silent, 0)
			for state, yours := range map[int]int{Greeted: 0, Up: 8} {
				if silent >= dead {
					continue
				}
				s := newSide(t, 8, dead)
				checkReceive(t, s, Greeting{3, yours}, true, face{state, 3, 1})
				for range 3 {
					for range silent {
						checkTick(t, s, Greeting{8, 3}, face{state, 3, 1})
					}
					checkReceive(t, s, Greeting{3, yours}, false, face{state, 3, 1})
				}
				for range dead - 1 {
					checkTick(t, s, Greeting{8, 3}, face{state, 3, 1})
				}
				checkTick(t, s, Greeting{8, 0}, face{Down, 0, 2})
				checkTick(t, s, Greeting{8, 0}, face{Down, 0, 2})
			}
		}
	}
}

func TestTickWithGreatestDead(t *testing.T) {
	s := newSide(t, 1, 1000)
	s.Receive(Greeting{greatest, 1})
	for range 999 {
		checkTick(t, s, Greeting{1, greatest}, face{Up, greatest, 1})
	}
	checkTick(t, s, Greeting{1, 0}, face{Down, 0, 2})
}

// A greeting that is ignored changes nothing, and the count of silent ticks neither; one
// that changes the state or the peer begins it anew as well.
func TestIgnoredGreetingsAreSilence(t *testing.T) {
	for dead := 1; dead <= 6; dead++ {
		for _, mine := range append(noIncarnations(), 1, 2) {
			s := newSide(t, 8, dead)
			s.Receive(Greeting{3, 8})
			for range dead - 1 {
				checkReceive(t, s, Greeting{mine, 8}, false, face{Up, 3, 1})
				checkTick(t, s, Greeting{8, 3}, face{Up, 3, 1})
			}
			checkReceive(t, s, Greeting{mine, 0}, false, face{Up, 3, 1})
			checkTick(t, s, Greeting{8, 0}, face{Down, 0, 2})
			checkReceive(t, s, Greeting{mine, 8}, false, face{Down, 0, 2})
			checkTick(t, s, Greeting{8, 0}, face{Down, 0, 2})
		}
	}
}

func TestChangesEndSilence(t *testing.T) {
	for dead := 2; dead <= 6; dead++ {
		for _, g := range []Greeting{{3, 0}, {4, 8}, {4, 0}, {greatest, 8}} {
			s := newSide(t, 8, dead)
			s.Receive(Greeting{3, 8})
			for range dead - 1 {
				s.Tick()
			}
			if !s.Receive(g) {
				t.Fatal(dead, g)
			}
			for range dead - 1 {
				checkTick(t, s, Greeting{8, g.Mine}, face{s.State(), g.Mine, 2})
			}
			checkTick(t, s, Greeting{8, 0}, face{Down, 0, 3})
		}
	}
}

// P8.3

func TestAccepts(t *testing.T) {
	s := newSide(t, 5, 2)
	accepts := func(peer int) {
		t.Helper()
		checkAccepts(t, s, peer)
	}
	accepts(0) // before a peer
	s.Tick()
	accepts(0)
	s.Receive(Greeting{0, 5})
	accepts(0)
	s.Receive(Greeting{7, 0}) // accepted also while it is only Greeted
	accepts(7)
	s.Receive(Greeting{7, 5})
	accepts(7)
	s.Receive(Greeting{6, 5})
	accepts(7)
	s.Receive(Greeting{9, 5})
	accepts(9)
	s.Tick()
	accepts(9)
	s.Tick() // lost by silence
	accepts(0)
	s.Receive(Greeting{8, 5})
	accepts(0)
	s.Receive(Greeting{9, 4})
	accepts(9)
	s.Receive(Greeting{greatest, 5})
	accepts(greatest)
}

func TestChanges(t *testing.T) {
	s := newSide(t, 5, 2)
	for i, c := range []struct {
		e       event
		changes int
	}{
		{event{tick: true}, 0},
		{event{g: Greeting{0, 5}}, 0},
		{event{g: Greeting{3, 0}}, 1}, // both, counted once
		{event{g: Greeting{3, 0}}, 1}, // none
		{event{g: Greeting{3, 4}}, 1}, // none: still Greeted
		{event{g: Greeting{3, 5}}, 2}, // the state
		{event{g: Greeting{2, 0}}, 2}, // ignored
		{event{g: Greeting{4, 5}}, 3}, // the peer
		{event{g: Greeting{6, 0}}, 4}, // both, counted once
		{event{g: Greeting{7, 0}}, 5}, // the peer
		{event{g: Greeting{8, 5}}, 6}, // both, counted once
		{event{tick: true}, 6},
		{event{tick: true}, 7}, // both, counted once
		{event{tick: true}, 7},
		{event{tick: true}, 7},
		{event{g: Greeting{7, 5}}, 7},
		{event{g: Greeting{8, 5}}, 8}, // both, counted once
	} {
		if c.e.tick {
			s.Tick()
		} else {
			s.Receive(c.e.g)
		}
		if s.Changes() != c.changes {
			t.Fatalf("event %d, %v: %d changes, not %d", i, c.e, s.Changes(), c.changes)
		}
	}
}

func TestManyChanges(t *testing.T) {
	s := newSide(t, 5, 1)
	for i := range 100000 {
		switch i % 3 {
		case 0:
			checkChange(t, s, s.Receive(Greeting{i + 1, 0}), i+1)
		case 1:
			checkChange(t, s, s.Receive(Greeting{i, 5}), i+1)
		case 2:
			s.Tick()
			checkChange(t, s, s.State() == Down, i+1)
		}
	}
}

func checkChange(t *testing.T, s *Side, changed bool, changes int) {
	t.Helper()
	if !changed || s.Changes() != changes {
		t.Fatalf("%t, %d changes, not %d", changed, s.Changes(), changes)
	}
}

// What asks changes nothing.
func TestQuestionsChangeNothing(t *testing.T) {
	s := newSide(t, 5, 2)
	s.Receive(Greeting{7, 5})
	s.Tick()
	for range 5 {
		checkFace(t, s, face{Up, 7, 1})
	}
	checkTick(t, s, Greeting{5, 0}, face{Down, 0, 2})
}

// P8.4

func TestNil(t *testing.T) {
	var s *Side
	for range 3 {
		checkTick(t, s, Greeting{}, face{0, 0, 0})
		for _, mine := range append(noIncarnations(), 1, 2, greatest) {
			for _, yours := range []int{math.MinInt, -1, 0, 1, 1 << 40, math.MaxInt} {
				checkReceive(t, s, Greeting{mine, yours}, false, face{0, 0, 0})
			}
		}
	}
}

// A value that New did not make ends its calls as well.
func TestZeroValue(t *testing.T) {
	s := new(Side)
	for _, n := range append(noIncarnations(), 1, 2, greatest) {
		s.Tick()
		s.Receive(Greeting{n, n})
		s.Receive(Greeting{n, 0})
		s.Accepts(n)
		s.Tick()
	}
	checkFace(t, s, face{Down, 0, s.Changes()})
}

// P8.5

// checkConsequences performs the events and checks what follows from the promises, without a model.
func checkConsequences(t *testing.T, dead int, events []event) {
	t.Helper()
	s := newSide(t, 2, dead)
	last, latest := 0, 0
	for i, e := range events {
		if e.tick {
			s.Tick()
		} else {
			s.Receive(e.g)
		}
		peer := s.Peer()
		if peer < last && (peer != 0 || !e.tick) {
			t.Fatalf("%v: the peer is %d after %d at event %d", events, peer, last, i)
		}
		if peer != 0 && peer < latest {
			t.Fatalf("%v: the peer is %d after %d was seen, at event %d", events, peer, latest, i)
		}
		last, latest = peer, max(latest, peer)
		for n := range latest {
			if s.Accepts(n) {
				t.Fatalf("%v: %d is accepted after %d was seen, at event %d", events, n, latest, i)
			}
		}
	}
}

// All short lists of events of a side with the incarnation 2.
func TestShortLists(t *testing.T) {
	kinds := []event{{tick: true}, {g: Greeting{0, 2}}, {g: Greeting{1, 2}}, {g: Greeting{1, 1}}, {g: Greeting{2, 2}},
		{g: Greeting{2, 3}}, {g: Greeting{3, 0}}, {g: Greeting{3, 2}}, {g: Greeting{1 << 40, 2}}}
	for dead := 1; dead <= 3; dead++ {
		for n := range 6 {
			events := make([]event, n)
			sequences(len(kinds), n, func(list []int) {
				for i, k := range list {
					events[i] = kinds[k]
				}
				compare(t, 2, dead, events)
				checkConsequences(t, dead, events)
			})
		}
	}
}

// All lists of ticks and of two greetings, long enough for several silences.
func TestTicksAndTwoGreetings(t *testing.T) {
	kinds := []event{{tick: true}, {g: Greeting{4, 2}}, {g: Greeting{3, 0}}}
	for dead := 1; dead <= 4; dead++ {
		events := make([]event, 9)
		sequences(len(kinds), len(events), func(list []int) {
			for i, k := range list {
				events[i] = kinds[k]
			}
			compare(t, 2, dead, events)
		})
	}
}

func TestLongLists(t *testing.T) {
	for seed := range 300 {
		d := dice(seed)
		own := []int{1, 2, 3, 1 << 33, greatest}[d(5)]
		dead := 1 + d(6)
		ticks := 1 + d(6) // of seven events
		grow := 1
		events := make([]event, 200)
		for i := range events {
			if d(7) < ticks {
				events[i].tick = true
				continue
			}
			if d(10) == 0 {
				grow += d(3)
			}
			mine := grow - d(3) + d(2)
			if d(40) == 0 {
				mine = []int{-1, 0, 1 << 40, 1 << 50}[d(4)]
			}
			events[i].g = Greeting{mine, []int{0, own - 1, own, own, own, own + 1, -own}[d(7)]}
		}
		compare(t, own, dead, events)
		checkConsequences(t, dead, events)
	}
}

// pair is two sides with a way in each direction, on which a greeting takes some ticks.
type pair struct {
	sides [2]*Side
	own   [2]int
	dead  [2]int
	delay int
	now   int
	// early[i] is true if the side i receives before its tick, and false if after it
	early [2]bool
	// due[i] are the greetings to the side i, by the tick in which they arrive
	due [2]map[int][]Greeting
}

func newPair(t *testing.T, delay int, own, dead [2]int) *pair {
	t.Helper()
	p := &pair{own: own, dead: dead, delay: delay}
	for i := range p.sides {
		p.sides[i] = newSide(t, own[i], dead[i])
		p.due[i] = map[int][]Greeting{}
	}
	return p
}

// restart replaces a side by a new one with a greater incarnation.
func (p *pair) restart(t *testing.T, i, more int) {
	t.Helper()
	p.own[i] += more
	p.sides[i] = newSide(t, p.own[i], p.dead[i])
}

func (p *pair) receive(i int) {
	for _, g := range p.due[i][p.now] {
		p.sides[i].Receive(g)
	}
	delete(p.due[i], p.now)
}

// tick is a tick of both sides; lost[i] tells whether the greeting of the side i is lost.
func (p *pair) tick(lost [2]bool) {
	p.now++
	for i := range p.sides {
		if p.early[i] {
			p.receive(i)
		}
	}
	for i, s := range p.sides {
		if g := s.Tick(); !lost[i] {
			p.due[1-i][p.now+p.delay] = append(p.due[1-i][p.now+p.delay], g)
		}
	}
	for i := range p.sides {
		if !p.early[i] {
			p.receive(i)
		}
	}
}

// agree reports whether both sides are Up and know each other's incarnation.
func (p *pair) agree() bool {
	for i, s := range p.sides {
		if s.State() != Up || s.Peer() != p.own[1-i] || !s.Accepts(p.own[1-i]) {
			return false
		}
	}
	return true
}

// checkMeet checks that, from now on, both sides are Up after 2 delay + 2 ticks without
// losses, and stay so.
func (p *pair) checkMeet(t *testing.T, what string) {
	t.Helper()
	for range 2*p.delay + 2 {
		p.tick([2]bool{})
	}
	changes := [2]int{p.sides[0].Changes(), p.sides[1].Changes()}
	for range 3*p.delay + 5 {
		if !p.agree() || p.sides[0].Changes() != changes[0] || p.sides[1].Changes() != changes[1] {
			t.Fatalf("%s: after %d ticks %v, %v", what, p.now, faceOf(p.sides[0]), faceOf(p.sides[1]))
		}
		p.tick([2]bool{})
	}
}

func TestNewSidesMeet(t *testing.T) {
	for _, delay := range []int{0, 1, 2, 3, 10, 100} {
		for _, dead := range []int{2, 3, 5, 1000} {
			p := newPair(t, delay, [2]int{5, 7}, [2]int{dead, dead})
			p.checkMeet(t, fmt.Sprint("delay ", delay, ", dead ", dead))
			// and not a tick earlier
			p = newPair(t, delay, [2]int{5, 7}, [2]int{dead, dead})
			for range 2*delay + 1 {
				p.tick([2]bool{})
				if p.sides[0].State() == Up || p.sides[1].State() == Up {
					t.Fatal(delay, dead, p.now)
				}
			}
		}
	}
}

// With the number 1 every tick is too silent, so the sides never meet.
func TestDeadOneNeverMeets(t *testing.T) {
	for delay := 1; delay <= 4; delay++ {
		p := newPair(t, delay, [2]int{5, 7}, [2]int{1, 1})
		for range 50 {
			p.tick([2]bool{})
			if p.agree() {
				t.Fatal(delay, p.now)
			}
		}
	}
}

// All ways of losing the greetings of some ticks.
func TestMeetAfterAllLosses(t *testing.T) {
	for delay := range 4 {
		for dead := 2; dead <= 3; dead++ {
			sequences(4, 6, func(list []int) {
				p := newPair(t, delay, [2]int{5, 5}, [2]int{dead, 5 - dead})
				for _, k := range list {
					p.tick([2]bool{k&1 > 0, k&2 > 0})
				}
				p.checkMeet(t, fmt.Sprint("delay ", delay, ", losses ", list))
			})
		}
	}
}

// A restart after each number of ticks, of either side or of both, with each number of
// ticks without losses after it.
func TestMeetAfterRestart(t *testing.T) {
	for delay := range 5 {
		for dead := 2; dead <= 4; dead++ {
			for before := range 2*delay + 6 {
				for after := range 2*delay + 6 {
					for sides := 1; sides <= 3; sides++ {
						p := newPair(t, delay, [2]int{5, 7}, [2]int{dead, dead})
						for range before {
							p.tick([2]bool{})
						}
						if sides&1 > 0 {
							p.restart(t, 0, 1)
						}
						if sides&2 > 0 {
							p.restart(t, 1, 4)
						}
						for range after {
							p.tick([2]bool{true, true})
						}
						p.checkMeet(t, fmt.Sprint("delay ", delay, ", dead ", dead, ", before ", before, ", after ", after, ", sides ", sides))
					}
				}
			}
		}
	}
}

// Long runs with losses in bursts and restarts, and either order of receiving and ticks.
func TestMeetAfterAnything(t *testing.T) {
	for seed := range 2000 {
		d := dice(seed)
		p := newPair(t, 1+d(12), [2]int{1 + d(9), 1 + d(9)}, [2]int{2 + d(8), 2 + d(8)})
		p.early = [2]bool{d(2) == 0, d(2) == 0}
		bad := [2]int{d(5), d(5)} // of four greetings
		for range 20 + d(80) {
			if d(15) == 0 {
				p.restart(t, d(2), 1+d(3))
			}
			if d(15) == 0 {
				bad = [2]int{d(5), d(5)}
			}
			p.tick([2]bool{d(4) < bad[0], d(4) < bad[1]})
		}
		p.checkMeet(t, fmt.Sprint("seed ", seed))
	}
}

// P1 and the rules: the same calls have the same results, whatever happens between them.
func TestSameCallsSameResults(t *testing.T) {
	run := func(disturb func()) []string {
		d := dice(77)
		s := newSide(t, 5, 3)
		var log []string
		for range 500 {
			disturb()
			if d(2) == 0 {
				log = append(log, fmt.Sprint(s.Tick(), faceOf(s)))
			} else {
				log = append(log, fmt.Sprint(s.Receive(Greeting{d(30), 4 + d(2)}), faceOf(s)))
			}
		}
		return log
	}
	other := newSide(t, 5, 3)
	d := dice(78)
	a := run(func() {})
	b := run(func() {
		other.Receive(Greeting{1 + d(100), 5})
		other.Tick()
	})
	if !slices.Equal(a, b) {
		t.Error(a, b)
	}
}
