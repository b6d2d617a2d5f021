package ring

import (
	"testing"

	"fairlink/api"
)

// This test looks into the slots, since a value that stays behind in one is not seen from
// outside.

// kept returns how many slots of a ring hold something.
func kept(r *Ring[*int]) int {
	n := 0
	for _, x := range r.slots {
		if x != nil {
			n++
		}
	}
	return n
}

func TestTakenValuesAreNotKept(t *testing.T) {
	for _, room := range []int{1, 2, 3, api.MaxBuffer} {
		r, _ := New[*int](room)
		for i := range 5 * room {
			for r.Len() <= i%room {
				r.Put(new(int))
			}
			for j := range r.Len() / (1 + i%2) {
				r.Take()
				if kept(r) != r.Len() || len(r.slots) != room {
					t.Fatalf("room %d, round %d, take %d: %d of %d slots for %d values", room, i, j, kept(r), len(r.slots), r.Len())
				}
			}
		}
	}
}
