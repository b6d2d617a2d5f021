package ring_test

import (
	"math"
	"slices"
	"testing"

	"fairlink/api"
	. "fairlink/ring"
)

// noClasses are numbers that no shelf with this many classes has as a class.
func noClasses(classes int) []int {
	return []int{math.MinInt, -1 << 32, -1<<32 + 1, -classes - 1, -classes, -2, -1, classes, classes + 1,
		api.MaxClasses, api.MaxClasses + 1, 1 << 32, 1<<32 + 1, math.MaxInt}
}

func newShelf[T any](t *testing.T, rooms ...int) *Shelf[T] {
	t.Helper()
	s, e := NewShelf[T](rooms...)
	if s == nil || e != api.OK {
		t.Fatal(rooms, e)
	}
	return s
}

func checkShelfPut[T any](t *testing.T, s *Shelf[T], class int, x T, want api.Errno) {
	t.Helper()
	if e := s.Put(class, x); e != want {
		t.Fatalf("Put(%d, %v): %d, not %d", class, x, e, want)
	}
}

func checkShelfTake[T any](t *testing.T, s *Shelf[T], class int, want T, ok bool) {
	t.Helper()
	checkValue(t, "Take of a class", func() (T, bool) { return s.Take(class) }, want, ok)
}

func checkShelfPeek[T any](t *testing.T, s *Shelf[T], class int, want T, ok bool) {
	t.Helper()
	checkValue(t, "Peek of a class", func() (T, bool) { return s.Peek(class) }, want, ok)
}

// checkShelf compares what can be seen of a shelf without taking its values with what its
// classes must hold.
func checkShelf[T any](t *testing.T, s *Shelf[T], held ...[]T) {
	t.Helper()
	var lens []int
	for class, list := range held {
		lens = append(lens, len(list))
		var first T
		if len(list) > 0 {
			first = list[0]
		}
		checkShelfPeek(t, s, class, first, len(list) > 0)
	}
	if !slices.Equal(s.Lens(), lens) {
		t.Fatalf("Lens %v, not %v", s.Lens(), lens)
	}
}

// checkRooms checks that a shelf is empty and has these rooms, by filling it.
func checkRooms(t *testing.T, s *Shelf[int], rooms []int) {
	t.Helper()
	lens := make([]int, len(rooms))
	for class, room := range rooms {
		for i := range room {
			if !slices.Equal(s.Lens(), lens) {
				t.Fatalf("rooms %v: Lens %v, not %v", rooms, s.Lens(), lens)
			}
			checkShelfPut(t, s, class, 100*class+i, api.OK)
			lens[class]++
		}
		checkShelfPut(t, s, class, -1, api.ErrFull)
	}
	if !slices.Equal(s.Lens(), rooms) {
		t.Fatalf("rooms %v: Lens %v", rooms, s.Lens())
	}
	for class, room := range rooms {
		for i := range room {
			checkShelfTake(t, s, class, 100*class+i, true)
		}
		checkShelfTake(t, s, class, 0, false)
	}
	checkShelf(t, s, make([][]int, len(rooms))...)
}

// P9.3

func TestNewShelf(t *testing.T) {
	for classes := 1; classes <= api.MaxClasses; classes++ {
		good := []int{1, 2, 7, 63, 64}
		sequences(len(good), classes, func(list []int) {
			var rooms []int
			for _, i := range list {
				rooms = append(rooms, good[i])
			}
			s := newShelf[int](t, rooms...)
			checkShelf(t, s, make([][]int, classes)...)
			checkRooms(t, s, rooms)
		})
	}
}

func TestNewShelfClasses(t *testing.T) {
	for _, rooms := range [][]int{nil, {}, {1, 1, 1, 1, 1}, {64, 64, 64, 64, 64}, {1, 2, 3, 4, 5, 6}, make([]int, 5), make([]int, 1000)} {
		if s, e := NewShelf[int](rooms...); s != nil || e != api.ErrRange {
			t.Error(rooms, s, e)
		}
	}
	if s, e := NewShelf[string](); s != nil || e != api.ErrRange {
		t.Error(s, e)
	}
	many := slices.Repeat([]int{3}, 260)
	for n := 5; n <= len(many); n++ {
		if s, e := NewShelf[int](many[:n]...); s != nil || e != api.ErrRange {
			t.Error(n, s, e)
		}
	}
}

// A room that is none, at each place of each number of classes.
func TestNewShelfRooms(t *testing.T) {
	for classes := 1; classes <= api.MaxClasses; classes++ {
		for place := range classes {
			for _, other := range []int{1, api.MaxBuffer} {
				rooms := slices.Repeat([]int{other}, classes)
				for _, bad := range noRooms() {
					rooms[place] = bad
					if s, e := NewShelf[int](rooms...); s != nil || e != api.ErrRange {
						t.Error(rooms, s, e)
					}
				}
				for _, good := range []int{1, api.MaxBuffer} {
					rooms[place] = good
					checkRooms(t, newShelf[int](t, rooms...), rooms)
				}
			}
		}
	}
}

func TestNewShelfKeepsNoList(t *testing.T) {
	rooms := []int{1, 2, 3}
	s := newShelf[int](t, rooms...)
	if !slices.Equal(rooms, []int{1, 2, 3}) {
		t.Fatal(rooms)
	}
	rooms[0], rooms[1], rooms[2] = 64, 0, -1
	checkRooms(t, s, []int{1, 2, 3})
	if !slices.Equal(rooms, []int{64, 0, -1}) {
		t.Fatal(rooms)
	}
}

func TestShelvesShareNothing(t *testing.T) {
	a, b := newShelf[int](t, 1, 2), newShelf[int](t, 1, 2)
	checkShelfPut(t, a, 0, 5, api.OK)
	checkShelfPut(t, a, 1, 6, api.OK)
	checkShelf(t, b, nil, nil)
	checkShelfPut(t, b, 0, 7, api.OK)
	checkShelfTake(t, a, 0, 5, true)
	checkShelf(t, a, nil, []int{6})
	checkShelf(t, b, []int{7}, nil)
}

// The errors of Put in their order: a class that does not exist comes before a full one.
func TestShelfErrors(t *testing.T) {
	for classes := 1; classes <= api.MaxClasses; classes++ {
		s := newShelf[string](t, slices.Repeat([]int{1}, classes)...)
		var none *Shelf[string]
		held := make([][]string, classes)
		for class := range classes {
			for _, bad := range noClasses(classes) {
				checkShelfPut(t, s, bad, "x", api.ErrRange)
				checkShelfPut(t, none, bad, "x", api.ErrArg)
				checkShelfPeek(t, s, bad, "", false)
				checkShelfTake(t, s, bad, "", false)
				checkShelf(t, s, held...)
			}
			checkShelfPut(t, none, class, "x", api.ErrArg)
			checkShelfTake(t, s, class, "", false)
			checkShelfPut(t, s, class, "a", api.OK)
			held[class] = []string{"a"}
			checkShelf(t, s, held...)
			checkShelfPut(t, s, class, "b", api.ErrFull)
			checkShelf(t, s, held...)
		}
		for _, bad := range noClasses(classes) { // with all classes full
			checkShelfPut(t, s, bad, "x", api.ErrRange)
			checkShelfTake(t, s, bad, "", false)
		}
		checkShelf(t, s, held...)
	}
}

// The caller may do with the list of Lens what it wants.
func TestLensIsACopy(t *testing.T) {
	s := newShelf[int](t, 2, 3)
	checkShelfPut(t, s, 1, 5, api.OK)
	first := s.Lens()
	first[0], first[1] = 2, 3
	second := s.Lens()
	if !slices.Equal(second, []int{0, 1}) {
		t.Fatal(second)
	}
	_ = append(second[:1], 9)
	checkShelf(t, s, nil, []int{5})
	checkShelfPut(t, s, 0, 6, api.OK)
	if !slices.Equal(first, []int{2, 3}) || !slices.Equal(second, []int{0, 9}) {
		t.Fatal(first, second)
	}
}

// P9.4

// shelfCall is a Put or a Take of a class.
type shelfCall struct {
	class int
	put   bool
}

// runShelf performs calls with a shelf and with a ring for each class alone, and compares
// all classes after each call.
func runShelf(t *testing.T, rooms []int, calls []shelfCall) {
	t.Helper()
	s := newShelf[int](t, rooms...)
	held := make([][]int, len(rooms))
	for i, c := range calls {
		list := held[c.class]
		switch {
		case c.put && len(list) == rooms[c.class]:
			checkShelfPut(t, s, c.class, i+1, api.ErrFull)
		case c.put:
			checkShelfPut(t, s, c.class, i+1, api.OK)
			held[c.class] = append(list, i+1)
		case len(list) == 0:
			checkShelfTake(t, s, c.class, 0, false)
		default:
			checkShelfTake(t, s, c.class, list[0], true)
			held[c.class] = list[1:]
		}
		checkShelf(t, s, held...)
	}
	for class, list := range held {
		for _, x := range list {
			checkShelfTake(t, s, class, x, true)
		}
		checkShelfTake(t, s, class, 0, false)
	}
}

func TestShelfShortLists(t *testing.T) {
	for _, rooms := range [][]int{{1}, {2}, {1, 1}, {1, 2}, {2, 1}, {1, 2, 1}} {
		n := []int{0, 12, 7, 5}[len(rooms)]
		sequences(2*len(rooms), n, func(list []int) {
			var calls []shelfCall
			for _, x := range list {
				calls = append(calls, shelfCall{x / 2, x%2 == 1})
			}
			runShelf(t, rooms, calls)
		})
	}
}

func TestShelfLongLists(t *testing.T) {
	for seed := range 300 {
		roll := dice(seed)
		var rooms []int
		for range 1 + roll(api.MaxClasses) {
			rooms = append(rooms, 1+roll([]int{1, 3, 10, api.MaxBuffer}[roll(4)]))
		}
		var calls []shelfCall
		for len(calls) < 1000 {
			putting := 1 + roll(5)
			for range 1 + roll(80) {
				calls = append(calls, shelfCall{roll(len(rooms)), roll(6) < putting})
			}
		}
		runShelf(t, rooms, calls)
	}
}

// Whatever is done with one class, the others keep their values and their rooms.
func TestClassesAlone(t *testing.T) {
	for busy := range api.MaxClasses {
		rooms := []int{2, 3, 4, 5}
		s := newShelf[int](t, rooms...)
		held := make([][]int, len(rooms))
		for class := range rooms {
			if class == busy {
				continue
			}
			for i := range class + 1 {
				checkShelfPut(t, s, class, 10*class+i, api.OK)
				held[class] = append(held[class], 10*class+i)
			}
		}
		roll := dice(busy)
		for i := range 500 {
			if roll(2) == 0 {
				if s.Put(busy, 1000+i) == api.OK {
					held[busy] = append(held[busy], 1000+i)
				}
			} else if _, ok := s.Take(busy); ok {
				held[busy] = held[busy][1:]
			}
			checkShelf(t, s, held...)
		}
		for class, list := range held {
			for _, x := range list {
				checkShelfTake(t, s, class, x, true)
			}
		}
		checkRooms(t, s, rooms)
	}
}

// P1 and the nil shelf

func TestNilShelf(t *testing.T) {
	checkNilShelf(t, 5)
	checkNilShelf(t, "a")
	checkNilShelf(t, []int{1})
	checkNilShelf(t, pair{"a", 1})
}

func checkNilShelf[T any](t *testing.T, x T) {
	t.Helper()
	var s *Shelf[T]
	var none T
	for _, class := range append(noClasses(1), 0, 1, 2, 3) {
		checkShelfPut(t, s, class, x, api.ErrArg)
		checkShelfTake(t, s, class, none, false)
		checkShelfPeek(t, s, class, none, false)
		if lens := s.Lens(); len(lens) != 0 {
			t.Fatal(class, lens)
		}
	}
}

// A shelf that NewShelf did not make has no class.
func TestZeroShelf(t *testing.T) {
	var s Shelf[int]
	for _, class := range append(noClasses(1), 0) {
		checkShelfPut(t, &s, class, 5, api.ErrRange)
		checkShelfTake(t, &s, class, 0, false)
		checkShelfPeek(t, &s, class, 0, false)
		if lens := s.Lens(); len(lens) != 0 {
			t.Fatal(class, lens)
		}
	}
}
