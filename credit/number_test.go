package credit

import (
	"testing"

	"fairlink/api"
)

// This test sets the counters itself, since too many calls would be needed to reach
// numbers near MaxNumber.

// start returns a giver and a taker that have counted up to these numbers.
func start(room, received, freed, limit, sent int) (*Giver, *Taker) {
	g := &Giver{classes: []buffer{{room: room, received: received, freed: freed}}}
	t := &Taker{classes: []supply{{limit: limit, sent: sent}}}
	return g, t
}

func checkNumbers(t *testing.T, g *Giver, s *Taker) {
	t.Helper()
	b, u := g.classes[0], s.classes[0]
	if g.Limit(0) > api.MaxNumber || b.received > api.MaxNumber || b.freed > b.received || u.limit > api.MaxNumber || u.sent > u.limit {
		t.Fatalf("limit %d, counters %d of %d", g.Limit(0), b, u)
	}
}

func TestCountersEndAtMaxNumber(t *testing.T) {
	for _, room := range []int{1, 2, 64} {
		for before := range 2*room + 2 {
			first := api.MaxNumber - before
			g, s := start(room, first, first, first, first)
			for range 200 {
				if e := s.Raise(0, g.Limit(0)); e != api.OK {
					t.Fatal("Raise", e)
				}
				if s.Take(0) == api.OK && g.Receive(0) != api.OK {
					t.Fatal("Receive")
				}
				checkNumbers(t, g, s)
				g.Free(0)
				checkNumbers(t, g, s)
			}
			if s.Sent(0) != api.MaxNumber || g.Limit(0) != api.MaxNumber || g.Held(0) != 0 || s.Left(0) != 0 {
				t.Fatal(room, before, s.Sent(0), g.Limit(0), g.Held(0))
			}
			if e := g.Receive(0); e != api.ErrFull {
				t.Fatal("Receive at the end", e)
			}
			if e := s.Take(0); e != api.ErrFull {
				t.Fatal("Take at the end", e)
			}
			checkNumbers(t, g, s)
		}
	}
}

func TestAuditsEndAtMaxNumber(t *testing.T) {
	for before := range 70 {
		first := api.MaxNumber - before
		g, s := start(64, first, first, first, first)
		if n, e := g.Audit(0, api.MaxNumber+1); n != 0 || e != api.ErrRange {
			t.Fatal(before, n, e)
		}
		lost := 0
		for range 3 {
			n, e := g.Audit(0, g.Limit(0))
			if e != api.OK {
				t.Fatal(before, e)
			}
			lost += n
			checkNumbers(t, g, s)
		}
		if lost != before {
			t.Fatal(before, lost)
		}
	}
}
