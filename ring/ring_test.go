package ring_test

import (
	"fmt"
	"maps"
	"math"
	"reflect"
	"slices"
	"testing"

	"fairlink/api"
	. "fairlink/ring"
)

// dice returns a function that returns numbers from 0 to n-1 without a visible pattern,
// other ones for each seed.
func dice(seed int) func(n int) int {
	x := uint64(seed)*2654435761 + 12345
	return func(n int) int {
		x = x*6364136223846793005 + 1442695040888963407
		return int(x >> 33 % uint64(n))
	}
}

// sequences calls f with all lists of n numbers from 0 to base-1.
func sequences(base, n int, f func(list []int)) {
	list := make([]int, n)
	for {
		f(list)
		i := 0
		for i < n && list[i] == base-1 {
			list[i] = 0
			i++
		}
		if i == n {
			return
		}
		list[i]++
	}
}

// noRooms are numbers that no ring has as its room.
func noRooms() []int {
	return []int{math.MinInt, math.MinInt + 1, -1 << 32, -1<<32 + 1, -65, -64, -2, -1, 0,
		65, 66, 100, 128, 129, 256, 257, 1 << 32, 1<<32 + 1, 1<<32 + 64, 1 << 62, math.MaxInt - 1, math.MaxInt}
}

func newRing[T any](t *testing.T, room int) *Ring[T] {
	t.Helper()
	r, e := New[T](room)
	if r == nil || e != api.OK {
		t.Fatal(room, e)
	}
	return r
}

// fullRing returns a ring that holds the numbers from 0 on, with the first one at any of
// its places.
func fullRing(t *testing.T, room, taken int) *Ring[int] {
	t.Helper()
	r := newRing[int](t, room)
	for i := range taken {
		checkPut(t, r, -1-i, api.OK)
		checkTake(t, r, -1-i, true)
	}
	for i := range room {
		checkPut(t, r, i, api.OK)
	}
	return r
}

func count(n int) []int {
	var list []int
	for i := range n {
		list = append(list, i)
	}
	return list
}

// collect returns what an iteration yields, and checks that the indices count from 0.
func collect[T any](t *testing.T, r *Ring[T]) []T {
	t.Helper()
	var all []T
	for i, x := range r.All() {
		if i != len(all) {
			t.Fatalf("value %d is yielded with the index %d", len(all), i)
		}
		all = append(all, x)
	}
	return all
}

func checkAll[T any](t *testing.T, r *Ring[T], want []T) {
	t.Helper()
	if got := collect(t, r); !(len(got) == 0 && len(want) == 0) && !reflect.DeepEqual(got, want) {
		t.Fatalf("holds %v, not %v", got, want)
	}
}

// checkRing compares all that can be seen of a ring with what it must hold.
func checkRing[T any](t *testing.T, r *Ring[T], room int, want []T) {
	t.Helper()
	if r.Len() != len(want) || r.Room() != room-len(want) {
		t.Fatalf("Len %d, Room %d, not %d, %d", r.Len(), r.Room(), len(want), room-len(want))
	}
	var first T
	if len(want) > 0 {
		first = want[0]
	}
	checkValue(t, "Peek", r.Peek, first, len(want) > 0)
	checkAll(t, r, want)
}

func checkValue[T any](t *testing.T, what string, f func() (T, bool), want T, ok bool) {
	t.Helper()
	if x, found := f(); found != ok || !reflect.DeepEqual(x, want) {
		t.Fatalf("%s: %v, %t, not %v, %t", what, x, found, want, ok)
	}
}

func checkTake[T any](t *testing.T, r *Ring[T], want T, ok bool) {
	t.Helper()
	checkValue(t, "Take", r.Take, want, ok)
}

func checkPut[T any](t *testing.T, r *Ring[T], x T, want api.Errno) {
	t.Helper()
	if e := r.Put(x); e != want {
		t.Fatalf("Put(%v): %d, not %d", x, e, want)
	}
}

// P9.1

func TestNew(t *testing.T) {
	for _, room := range append([]int{1, 2, 3, 63, 64}, count(api.MaxBuffer)[1:]...) {
		r, e := New[int](room)
		if r == nil || e != api.OK {
			t.Fatal(room, e)
		}
		checkRing(t, r, room, nil)
		checkTake(t, r, 0, false)
		checkRing(t, r, room, nil)
	}
	for _, room := range noRooms() {
		if r, e := New[int](room); r != nil || e != api.ErrRange {
			t.Error(room, r, e)
		}
		if r, e := New[string](room); r != nil || e != api.ErrRange {
			t.Error(room, r, e)
		}
	}
}

func TestRingsShareNothing(t *testing.T) {
	a, b := newRing[int](t, 2), newRing[int](t, 2)
	checkPut(t, a, 1, api.OK)
	checkRing(t, b, 2, nil)
	checkPut(t, b, 2, api.OK)
	checkPut(t, b, 3, api.OK)
	checkRing(t, a, 2, []int{1})
	checkTake(t, b, 2, true)
	checkRing(t, a, 2, []int{1})
	checkRing(t, b, 2, []int{3})
}

// Each room, from empty to full and beyond, and from full to empty and beyond.
func TestFillAndEmpty(t *testing.T) {
	for room := 1; room <= api.MaxBuffer; room++ {
		r := newRing[int](t, room)
		var held []int
		for i := range room {
			checkPut(t, r, i+5, api.OK)
			held = append(held, i+5)
			checkRing(t, r, room, held)
		}
		for i := range 3 {
			checkPut(t, r, -1-i, api.ErrFull)
			checkRing(t, r, room, held)
		}
		for len(held) > 0 {
			checkTake(t, r, held[0], true)
			held = held[1:]
			checkRing(t, r, room, held)
		}
		for range 3 {
			checkTake(t, r, 0, false)
			checkRing(t, r, room, nil)
		}
		checkPut(t, r, 9, api.OK)
		checkRing(t, r, room, []int{9})
	}
}

// A full ring refuses values wherever its first one is, and keeps those that it holds.
func TestPutIntoFull(t *testing.T) {
	for room := 1; room <= api.MaxBuffer; room++ {
		for taken := range room + 1 {
			r := fullRing(t, room, taken)
			checkPut(t, r, 1000, api.ErrFull)
			checkPut(t, r, 0, api.ErrFull)
			checkRing(t, r, room, count(room))
			checkTake(t, r, 0, true)
			checkPut(t, r, 2000, api.OK)
			checkPut(t, r, 3000, api.ErrFull)
			checkRing(t, r, room, append(count(room)[1:], 2000))
		}
	}
}

// P9.2

func TestExample(t *testing.T) {
	r := newRing[int](t, 2)
	checkPut(t, r, 5, api.OK)
	checkPut(t, r, 7, api.OK)
	checkPut(t, r, 9, api.ErrFull)
	checkValue(t, "Peek", r.Peek, 5, true)
	checkTake(t, r, 5, true)
	if r.Room() != 1 {
		t.Fatal(r.Room())
	}
	checkPut(t, r, 9, api.OK)
	checkRing(t, r, 2, []int{7, 9})
}

// The zero value is a value too: only the truth value tells it from none.
func TestZerosAreHeld(t *testing.T) {
	r := newRing[int](t, 3)
	for range 3 {
		checkPut(t, r, 0, api.OK)
	}
	checkPut(t, r, 0, api.ErrFull)
	checkRing(t, r, 3, []int{0, 0, 0})
	for i := range 3 {
		checkTake(t, r, 0, true)
		checkRing(t, r, 3, make([]int, 2-i))
	}
	checkTake(t, r, 0, false)
}

// With each number of values in each room, many times more of them pass than the room.
func TestManyPass(t *testing.T) {
	for room := 1; room <= api.MaxBuffer; room++ {
		for held := 1; held <= room; held = held*2 + room%2 {
			checkPassing(t, room, held)
		}
		checkPassing(t, room, room)
	}
}

func checkPassing(t *testing.T, room, held int) {
	t.Helper()
	r := newRing[int](t, room)
	for i := range held {
		checkPut(t, r, i, api.OK)
	}
	for i := range 10*room + 3 {
		if r.Len() != held || r.Room() != room-held {
			t.Fatal(room, held, r.Len(), r.Room())
		}
		checkValue(t, "Peek", r.Peek, i, true)
		checkTake(t, r, i, true)
		checkPut(t, r, i+held, api.OK)
		if held == room {
			checkPut(t, r, -1, api.ErrFull)
		}
	}
	want := count(11*room + 3 + held)[10*room+3:][:held]
	checkRing(t, r, room, want)
}

func TestQuestionsChangeNothing(t *testing.T) {
	r := fullRing(t, 3, 2)
	checkTake(t, r, 0, true)
	for range 10 {
		checkRing(t, r, 3, []int{1, 2})
	}
	empty := newRing[int](t, 3)
	for range 10 {
		checkRing(t, empty, 3, nil)
	}
}

// P9.4

// run performs calls with a ring and with a list of values, and compares them after each:
// a call of 0 or less takes a value, and any other one puts that number.
func run(t *testing.T, room int, calls []int) {
	t.Helper()
	r := newRing[int](t, room)
	var held []int
	for _, c := range calls {
		switch {
		case c <= 0 && len(held) == 0:
			checkTake(t, r, 0, false)
		case c <= 0:
			checkTake(t, r, held[0], true)
			held = held[1:]
		case len(held) == room:
			checkPut(t, r, c, api.ErrFull)
		default:
			checkPut(t, r, c, api.OK)
			held = append(held, c)
		}
		checkRing(t, r, room, held)
	}
}

func TestShortLists(t *testing.T) {
	for room := 1; room <= 5; room++ {
		sequences(2, 12, func(list []int) {
			calls := slices.Clone(list)
			for i := range calls {
				calls[i] *= i + 1
			}
			run(t, room, calls)
		})
	}
}

func TestLongLists(t *testing.T) {
	for room := 1; room <= api.MaxBuffer; room++ {
		roll := dice(room)
		var calls []int
		for len(calls) < 1500 {
			// more puts than takes for a while, then more takes than puts
			putting := 1 + roll(5)
			for range roll(3*room) + 1 {
				c := 0
				if roll(6) < putting {
					c = len(calls) + 1
				}
				calls = append(calls, c)
			}
		}
		run(t, room, calls)
	}
}

// What goes in comes out in order and once, and never more than the room is inside.
func TestOrderAndRoom(t *testing.T) {
	for seed := range 200 {
		roll := dice(1000 + seed)
		room := 1 + roll(api.MaxBuffer)
		r := newRing[string](t, room)
		var in, out []string
		for i := range 2000 {
			if roll(2) == 0 {
				if x := fmt.Sprint("value ", i); r.Put(x) == api.OK {
					in = append(in, x)
				} else if len(in)-len(out) != room {
					t.Fatalf("seed %d: refused with %d of %d", seed, len(in)-len(out), room)
				}
			} else if x, ok := r.Take(); ok {
				out = append(out, x)
			} else if len(in) != len(out) {
				t.Fatalf("seed %d: nothing taken with %d inside", seed, len(in)-len(out))
			}
			if inside := len(in) - len(out); inside > room || inside != r.Len() {
				t.Fatalf("seed %d: %d of %d inside, Len %d", seed, inside, room, r.Len())
			}
		}
		out = append(out, collect(t, r)...)
		if !slices.Equal(in, out) {
			t.Fatalf("seed %d: %v came out of %v", seed, out, in)
		}
	}
}

// Values of many types

type pair struct {
	Name   string
	Number int
}

// checkType passes values through a ring and a shelf of their type.
func checkType[T any](t *testing.T, values ...T) {
	t.Helper()
	for room := 1; room <= len(values)+1; room++ {
		r := newRing[T](t, room)
		s := newShelf[T](t, room, 1)
		var held []T
		for i := range 4 * len(values) {
			x := values[i%len(values)]
			if len(held) == room {
				checkPut(t, r, x, api.ErrFull)
				checkShelfPut(t, s, 0, x, api.ErrFull)
				checkTake(t, r, held[0], true)
				checkShelfTake(t, s, 0, held[0], true)
				held = held[1:]
			}
			checkPut(t, r, x, api.OK)
			checkShelfPut(t, s, 0, x, api.OK)
			held = append(held, x)
			checkRing(t, r, room, held)
			checkShelf(t, s, held, nil)
		}
		for len(held) > 0 {
			checkTake(t, r, held[0], true)
			checkShelfTake(t, s, 0, held[0], true)
			held = held[1:]
		}
		var none T
		checkTake(t, r, none, false)
		checkShelfTake(t, s, 0, none, false)
		checkShelfTake(t, s, 1, none, false)
		checkShelfTake(t, s, 2, none, false)
	}
}

func TestTypes(t *testing.T) {
	checkType(t, 5, 0, -7, math.MaxInt, math.MinInt)
	checkType[byte](t, 0, 255, 9)
	checkType(t, 0.5, -1, 0)
	checkType(t, true, false, true)
	checkType(t, "a", "", "bc", "\x00\xff")
	checkType(t, []int{1, 2}, nil, []int{}, []int{3})
	checkType(t, []byte("ab"), []byte{}, nil)
	checkType(t, [][]string{{"a"}, nil}, nil)
	checkType(t, [2]int{1, 2}, [2]int{}, [2]int{0, 3})
	checkType(t, pair{"a", 1}, pair{}, pair{"", 2}, pair{"b", 0})
	checkType(t, api.Packet{Kind: 1, Payload: []byte{7}}, api.Packet{})
	checkType(t, &pair{"a", 1}, nil, &pair{})
	checkType(t, map[string]int{"a": 1}, nil, map[string]int{})
	checkType[any](t, 1, "a", nil, pair{"c", 3})
	checkType[error](t, nil, nil)
	checkType(t, struct{}{}, struct{}{})
}

// Rings may hold what may not be compared, and rings.
func TestFunctionsAndRings(t *testing.T) {
	r := newRing[func() int](t, 2)
	for i := range 2 {
		if e := r.Put(func() int { return i + 3 }); e != api.OK {
			t.Fatal(e)
		}
	}
	for i := range 2 {
		if f, ok := r.Take(); !ok || f() != i+3 {
			t.Fatal(i, ok)
		}
	}
	if f, ok := r.Take(); f != nil || ok {
		t.Fatal(ok)
	}
	outer := newRing[*Ring[int]](t, 1)
	inner := newRing[int](t, 2)
	checkPut(t, inner, 4, api.OK)
	checkPut(t, outer, inner, api.OK)
	got, ok := outer.Peek()
	if got != inner || !ok {
		t.Fatal(ok)
	}
	checkTake(t, got, 4, true)
}

// P1 and the nil ring

func TestNilRing(t *testing.T) {
	checkNilRing(t, 5)
	checkNilRing(t, "a")
	checkNilRing(t, []int{1})
	checkNilRing(t, pair{"a", 1})
}

func checkNilRing[T any](t *testing.T, x T) {
	t.Helper()
	var r *Ring[T]
	var none T
	for range 3 {
		checkPut(t, r, x, api.ErrArg)
		checkTake(t, r, none, false)
		checkRing(t, r, 0, nil)
		all := r.All()
		if all == nil {
			t.Fatal("All is nil")
		}
		for i, y := range all {
			t.Fatal(i, y)
		}
	}
}

// A ring that New did not make has no room.
func TestZeroRing(t *testing.T) {
	var r Ring[int]
	for range 3 {
		checkPut(t, &r, 5, api.ErrFull)
		checkTake(t, &r, 0, false)
		checkRing(t, &r, 0, nil)
	}
}

func TestSameCallsSameResults(t *testing.T) {
	for room := 1; room <= api.MaxBuffer; room += 7 {
		a, b := newRing[int](t, room), newRing[int](t, room)
		roll := dice(room)
		for i := range 1000 {
			if roll(2) == 0 {
				if a.Put(i) != b.Put(i) {
					t.Fatal(room, i)
				}
			} else {
				x, ok := a.Take()
				checkTake(t, b, x, ok)
			}
			if !maps.Equal(maps.Collect(a.All()), maps.Collect(b.All())) {
				t.Fatal(room, i)
			}
		}
	}
}
