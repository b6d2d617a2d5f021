package ring_test

import (
	"slices"
	"testing"

	"fairlink/api"
	. "fairlink/ring"
)

// P9.2: the iterations of All.

func TestAllOfEmpty(t *testing.T) {
	for _, room := range []int{1, 2, api.MaxBuffer} {
		r := newRing[int](t, room)
		for taken := range room + 2 {
			all := r.All()
			if all == nil {
				t.Fatal("All is nil")
			}
			for i, x := range all {
				t.Fatal(room, taken, i, x)
			}
			checkPut(t, r, taken, api.OK)
			checkTake(t, r, taken, true)
		}
	}
}

// A full ring, with its first value at each of its places.
func TestAllOfFull(t *testing.T) {
	for room := 1; room <= api.MaxBuffer; room++ {
		for taken := range room + 1 {
			r := fullRing(t, room, taken)
			next := 0
			for i, x := range r.All() {
				if i != next || x != next {
					t.Fatal(room, taken, i, x, next)
				}
				next++
			}
			if next != room {
				t.Fatal(room, taken, next)
			}
			checkRing(t, r, room, count(room))
		}
	}
}

// The indices count the values that are held, not those that have passed.
func TestIndicesFromZero(t *testing.T) {
	r := fullRing(t, 4, 3)
	checkTake(t, r, 0, true)
	checkTake(t, r, 1, true)
	var indices, values []int
	for i, x := range r.All() {
		indices = append(indices, i)
		values = append(values, x)
	}
	if !slices.Equal(indices, []int{0, 1}) || !slices.Equal(values, []int{2, 3}) {
		t.Fatal(indices, values)
	}
}

// Left at each of its values: the ring stays as it is, and nothing is yielded any more.
func TestAllLeft(t *testing.T) {
	for _, room := range []int{1, 2, 3, 5, 8, api.MaxBuffer} {
		for taken := range room {
			r := fullRing(t, room, taken)
			for last := range room {
				if got := collectUntil(r, last); !slices.Equal(got, count(last+1)) {
					t.Fatal(room, taken, last, got)
				}
				if calls := callsUntil(r, last); calls != last+1 {
					t.Fatal(room, taken, last, calls)
				}
				if x := returnAt(r, last); x != last {
					t.Fatal(room, taken, last, x)
				}
				checkRing(t, r, room, count(room))
			}
		}
	}
}

// collectUntil leaves the loop with break.
func collectUntil(r *Ring[int], last int) []int {
	var got []int
	for i, x := range r.All() {
		got = append(got, x)
		if i == last {
			break
		}
	}
	return got
}

// callsUntil counts the calls of yield, which says at the index last that it wants no more.
func callsUntil(r *Ring[int], last int) int {
	calls := 0
	r.All()(func(i, x int) bool {
		calls++
		return i < last
	})
	return calls
}

// returnAt leaves the loop and the function.
func returnAt(r *Ring[int], last int) int {
	for i, x := range r.All() {
		if i == last {
			return x
		}
	}
	return -1
}

// change is done to a ring in the midst of an iteration.
type change struct {
	name string
	do   func(r *Ring[int])
}

func changes() []change {
	put := func(r *Ring[int]) { r.Put(100) }
	take := func(r *Ring[int]) { r.Take() }
	return []change{
		{"put", put},
		{"take", take},
		{"take and put", func(r *Ring[int]) { take(r); put(r) }},
		{"put and take", func(r *Ring[int]) { put(r); take(r) }},
		{"fill", func(r *Ring[int]) {
			for r.Put(200) == api.OK {
			}
		}},
		{"empty", func(r *Ring[int]) {
			for r.Len() > 0 {
				r.Take()
			}
		}},
		{"empty and fill", func(r *Ring[int]) {
			for r.Len() > 0 {
				r.Take()
			}
			for r.Put(300) == api.OK {
			}
		}},
	}
}

// Values are put in and taken at one of the values of the iteration.
func TestAllWhileChanged(t *testing.T) {
	for room := 1; room <= 6; room++ {
		for taken := range room {
			for held := 1; held <= room; held++ {
				for at := range held {
					for _, c := range changes() {
						checkChanged(t, room, taken, held, c, func(i int) bool { return i == at })
					}
				}
				for _, c := range changes() {
					checkChanged(t, room, taken, held, c, func(i int) bool { return true })
				}
			}
		}
	}
}

// checkChanged makes two rings that hold the numbers from 0 on, and changes one of them
// during an iteration and the other one without it.
func checkChanged(t *testing.T, room, taken, held int, c change, when func(i int) bool) {
	t.Helper()
	r, other := fullRing(t, room, taken), fullRing(t, room, taken)
	for i := range room - held {
		checkTake(t, r, i, true)
		checkTake(t, other, i, true)
	}
	var got []int
	for i, x := range r.All() {
		if i != len(got) {
			t.Fatalf("%s: index %d of value %d", c.name, i, len(got))
		}
		got = append(got, x)
		if when(i) {
			c.do(r)
			c.do(other)
		}
	}
	if want := count(room)[room-held:]; !slices.Equal(got, want) {
		t.Fatalf("%s, room %d, taken %d: %v, not %v", c.name, room, taken, got, want)
	}
	checkRing(t, r, room, collect(t, other))
}

// Each value is taken when it is seen.
func TestAllWhileTaken(t *testing.T) {
	for room := 1; room <= api.MaxBuffer; room++ {
		r := fullRing(t, room, room/2)
		seen := 0
		for i, x := range r.All() {
			checkTake(t, r, x, true)
			checkPut(t, r, 500+i, api.OK)
			seen++
		}
		if seen != room {
			t.Fatal(room, seen)
		}
		want := count(500 + room)[500:]
		checkRing(t, r, room, want)
	}
}

// The iteration begins with the loop, not with the call of All.
func TestAllBeginsWithTheLoop(t *testing.T) {
	r := newRing[int](t, 3)
	all := r.All()
	checkPut(t, r, 5, api.OK)
	checkPut(t, r, 6, api.OK)
	var got []int
	for i, x := range all {
		got = append(got, i, x)
	}
	if !slices.Equal(got, []int{0, 5, 1, 6}) {
		t.Fatal(got)
	}
	checkTake(t, r, 5, true)
	got = nil
	for i, x := range all {
		got = append(got, i, x)
	}
	if !slices.Equal(got, []int{0, 6}) {
		t.Fatal(got)
	}
	checkTake(t, r, 6, true)
	for i, x := range all {
		t.Fatal(i, x)
	}
}

// One function is used again after it was run to its end, and after it was left.
func TestAllAgain(t *testing.T) {
	for room := 1; room <= 5; room++ {
		r := fullRing(t, room, 1)
		all := r.All()
		for last := range room {
			for range 2 {
				next := 0
				for i, x := range all {
					if i != next || x != next {
						t.Fatal(room, i, x, next)
					}
					next++
				}
				if next != room {
					t.Fatal(room, next)
				}
			}
			for i, x := range all {
				if x != i {
					t.Fatal(room, i, x)
				}
				if i == last {
					break
				}
			}
		}
	}
}

// Two iterations at the same time, with one function and with two of them, while values
// are put in and taken: each yields what was held when it began.
func TestAllWithinAll(t *testing.T) {
	for room := 1; room <= 5; room++ {
		for _, same := range []bool{true, false} {
			r := fullRing(t, room, 2)
			all := r.All()
			held := count(room)
			next := 0
			for i, x := range all {
				if i != next || x != next {
					t.Fatal(room, same, i, x, next)
				}
				next++
				inner := all
				if !same {
					inner = r.All()
				}
				var got []int
				for j, y := range inner {
					if j != len(got) {
						t.Fatal(room, same, j, len(got))
					}
					got = append(got, y)
					if j == 0 {
						checkTake(t, r, held[0], true)
						checkPut(t, r, 100+i, api.OK)
					}
				}
				if !slices.Equal(got, held) {
					t.Fatal(room, same, got, held)
				}
				held = append(held[1:], 100+i)
			}
			if next != room {
				t.Fatal(room, same, next)
			}
			checkRing(t, r, room, held)
		}
	}
}

// Two iterations in turns, the one begun before and the other one after a change.
func TestAllInTurns(t *testing.T) {
	r := fullRing(t, 3, 1)
	var got []int
	r.All()(func(i, x int) bool {
		got = append(got, x)
		if i == 1 {
			r.Take()
			r.Put(3)
			r.All()(func(j, y int) bool {
				got = append(got, 10*y)
				r.Take()
				return j < 1
			})
		}
		return true
	})
	if !slices.Equal(got, []int{0, 1, 10, 20, 2}) {
		t.Fatal(got)
	}
	checkRing(t, r, 3, []int{3})
}

// A loop that panics leaves the ring as it is.
func TestAllWithPanic(t *testing.T) {
	r := fullRing(t, 3, 1)
	func() {
		defer func() {
			if x := recover(); x != "loop" {
				t.Fatal(x)
			}
		}()
		for range r.All() {
			panic("loop")
		}
	}()
	checkRing(t, r, 3, count(3))
}
