package stack_test

import (
	"math"
	"slices"
	"strconv"
	"testing"

	"beadle/api"
	"beadle/stack"
)

// filled is a stack onto which things were pushed, each with success.
func filled[T comparable](t *testing.T, room int, things ...T) *stack.Stack[T] {
	t.Helper()
	s := stack.New[T](room)
	for _, x := range things {
		want(t, "Push", s.Push(x), api.OK)
	}
	return s
}

func want(t *testing.T, what string, got, right api.Errno) {
	t.Helper()
	if got != right {
		t.Errorf("%s = %d, want %d", what, got, right)
	}
}

// wantTold makes sure that what was told is right, and the error with it.
func wantTold[T comparable](t *testing.T, what string, got T, e api.Errno, right T, rightE api.Errno) {
	t.Helper()
	if got != right || e != rightE {
		t.Errorf("%s = %v, %d, want %v, %d", what, got, e, right, rightE)
	}
}

// wantNone makes sure that what was told is the kind's zero value with ErrEmpty.
func wantNone[T comparable](t *testing.T, what string, got T, e api.Errno) {
	t.Helper()
	var none T
	wantTold(t, what, got, e, none, api.ErrEmpty)
}

// wantLike holds all that can be asked without a change against what it should be.
func wantLike[T comparable](t *testing.T, what string, s *stack.Stack[T], room int, things ...T) {
	t.Helper()
	if all := s.All(); !slices.Equal(all, things) {
		t.Errorf("%s: All = %v, want %v", what, all, things)
	}
	if s.Len() != len(things) || s.Room() != room {
		t.Errorf("%s: Len %d, Room %d, want %d, %d", what, s.Len(), s.Room(), len(things), room)
	}
	for n := range things {
		x, e := s.Pick(n)
		wantTold(t, what+": Pick "+strconv.Itoa(n), x, e, things[len(things)-1-n], api.OK)
	}
	for _, n := range []int{-1, math.MinInt, len(things), len(things) + 1, math.MaxInt} {
		x, e := s.Pick(n)
		wantNone(t, what+": Pick "+strconv.Itoa(n), x, e)
	}
}

// P4.1
func TestNewOfEachRoom(t *testing.T) {
	for _, c := range []struct{ asked, right int }{
		{math.MinInt, 0}, {-65536, 0}, {-3, 0}, {-1, 0},
		{0, 0}, {1, 1}, {2, 2}, {64, 64}, {65535, 65535}, {65536, 65536},
		{65537, 65536}, {1 << 31, 65536}, {1 << 32, 65536}, {1 << 40, 65536}, {math.MaxInt, 65536},
	} {
		wantLike(t, "New of ints", stack.New[int](c.asked), c.right)
		wantLike(t, "New of texts", stack.New[string](c.asked), c.right)
	}
}

// P4.1, P4.2: just as many as there is room for may be pushed.
func TestPushToTheRoom(t *testing.T) {
	for _, c := range []struct{ asked, right int }{
		{-1, 0}, {0, 0}, {1, 1}, {2, 2}, {3, 3}, {65535, 65535}, {65536, 65536}, {65537, 65536}, {math.MaxInt, 65536},
	} {
		s := stack.New[int](c.asked)
		for i := range c.right {
			if e := s.Push(i); e != api.OK {
				t.Fatalf("room %d: Push of the thing %d = %d", c.asked, i, e)
			}
		}
		for range 3 {
			want(t, "Push beyond the room", s.Push(-7), api.ErrFull)
		}
		if s.Len() != c.right || len(s.All()) != c.right {
			t.Errorf("room %d: Len %d, %d in All", c.asked, s.Len(), len(s.All()))
		}
		for i := c.right - 1; i >= 0; i-- {
			if x, e := s.Pop(); x != i || e != api.OK {
				t.Fatalf("room %d: Pop = %d, %d, want %d", c.asked, x, e, i)
			}
		}
		wantLike(t, "emptied", s, c.right)
	}
}

// P4.2: a Push that is refused changes nothing.
func TestPushRefused(t *testing.T) {
	s := filled(t, 2, "a", "b")
	want(t, "Push", s.Push("c"), api.ErrFull)
	want(t, "Push", s.Push(""), api.ErrFull)
	wantLike(t, "full", s, 2, "a", "b")
	x, e := s.Pop()
	wantTold(t, "Pop", x, e, "b", api.OK)
	want(t, "Push at the last place", s.Push("d"), api.OK)
	want(t, "Push beyond it", s.Push("e"), api.ErrFull)
	wantLike(t, "full again", s, 2, "a", "d")
	wantLike(t, "without room", stack.New[string](0), 0)
}

// P4.2: of nothing nothing is told, however often it is asked.
func TestPopOfNothing(t *testing.T) {
	numbers, texts := stack.New[int](2), stack.New[string](2)
	for range 3 {
		x, e := numbers.Pop()
		wantNone(t, "Pop of numbers", x, e)
		y, e := texts.Pop()
		wantNone(t, "Pop of texts", y, e)
	}
	wantLike(t, "numbers", numbers, 2)
	wantLike(t, "texts", texts, 2)
	x, e := stack.New[float64](0).Pop()
	wantNone(t, "Pop without room", x, e)
	want(t, "Push behind it", numbers.Push(8), api.OK)
	wantLike(t, "numbers", numbers, 2, 8)
}

// P4.2: the zero value is a thing like any other.
func TestZeroIsAThing(t *testing.T) {
	s := filled(t, 3, 0, 0)
	wantLike(t, "noughts", s, 3, 0, 0)
	x, e := s.Pop()
	wantTold(t, "Pop", x, e, 0, api.OK)
	wantLike(t, "a nought", s, 3, 0)
	wantLike(t, "texts", filled(t, 3, "", "b", ""), 3, "", "b", "")
}

// P4.2: each place of a stack, and those beside it.
func TestPick(t *testing.T) {
	s := filled(t, 9, "a", "b", "c")
	for _, c := range []struct {
		n     int
		right string
		e     api.Errno
	}{
		{math.MinInt, "", api.ErrEmpty}, {-3, "", api.ErrEmpty}, {-1, "", api.ErrEmpty},
		{0, "c", api.OK}, {1, "b", api.OK}, {2, "a", api.OK},
		{3, "", api.ErrEmpty}, {8, "", api.ErrEmpty}, {9, "", api.ErrEmpty}, {1 << 32, "", api.ErrEmpty}, {math.MaxInt, "", api.ErrEmpty},
	} {
		x, e := s.Pick(c.n)
		wantTold(t, "Pick "+strconv.Itoa(c.n), x, e, c.right, c.e)
	}
	wantLike(t, "picked", s, 9, "a", "b", "c")
}

// P4.2: what was popped can be picked no more, though its place was once filled.
func TestPickBehindPop(t *testing.T) {
	s := filled(t, 4, 1, 2, 3, 4)
	s.Pop()
	s.Pop()
	wantLike(t, "popped", s, 4, 1, 2)
}

// P4.3: the room stays, and behind Clear it may be filled anew.
func TestClear(t *testing.T) {
	for _, things := range [][]int{{}, {5}, {5, 6}, {5, 6, 7}} {
		s := filled(t, 3, things...)
		s.Clear()
		wantLike(t, "cleared", s, 3)
		x, e := s.Pop()
		wantNone(t, "Pop behind Clear", x, e)
		for i := range 3 {
			want(t, "Push behind Clear", s.Push(20+i), api.OK)
		}
		want(t, "Push beyond the room", s.Push(23), api.ErrFull)
		wantLike(t, "filled anew", s, 3, 20, 21, 22)
		s.Clear()
		s.Clear()
		wantLike(t, "cleared again", s, 3)
	}
	none := stack.New[string](-5)
	none.Clear()
	want(t, "Push without room", none.Push("a"), api.ErrFull)
	wantLike(t, "without room", none, 0)
}

// P4.3, R4: All is the caller's own, spare room too, and one answer is not another.
func TestAllIsTheCallers(t *testing.T) {
	s := filled(t, 8, "a", "b", "c")
	first, second := s.All(), s.All()
	first = append(first[:1], "x", "y", "z", "u")
	first[0] = "v"
	spoil(second, "w")
	wantLike(t, "All changed", s, 8, "a", "b", "c")
	third := s.All()
	want(t, "Push", s.Push("d"), api.OK)
	s.Pop()
	s.Pop()
	want(t, "Push", s.Push("e"), api.OK)
	if !slices.Equal(third, []string{"a", "b", "c"}) {
		t.Errorf("All changed with the stack: %q", third)
	}
	spoil(third, "w")
	wantLike(t, "All changed", s, 8, "a", "b", "e")
	s.Clear()
	spoil(s.All(), "w")
	wantLike(t, "cleared", s, 8)
}

// spoil overwrites a list and its spare room.
func spoil[T any](list []T, x T) {
	list = list[:cap(list)]
	for i := range list {
		list[i] = x
	}
}

// P4.3, R5: a clone has the same, and neither sees what is done to the other.
func TestClone(t *testing.T) {
	for _, things := range [][]int{{}, {1}, {1, 2}, {1, 2, 3}, {1, 2, 3, 4}} {
		s := filled(t, 4, things...)
		c := s.Clone()
		if c == s {
			t.Fatal("Clone is the stack itself")
		}
		wantLike(t, "the clone", c, 4, things...)
		refill(s, 70)
		wantLike(t, "the clone behind the other's change", c, 4, things...)
		refill(c, 80)
		wantLike(t, "the one", s, 4, 70, 71, 72, 73)
		wantLike(t, "the clone", c, 4, 80, 81, 82, 83)
		s.Clear()
		wantLike(t, "the clone behind the other's Clear", c, 4, 80, 81, 82, 83)
	}
}

// refill pops all, and pushes things from first on, as many as there is room for.
func refill(s *stack.Stack[int], first int) {
	for range s.Len() {
		s.Pop()
	}
	for i := range s.Room() {
		s.Push(first + i)
	}
}

// P4.3, R5: a Push on the one and a Push on the other fall into two places, though both have spare room.
func TestClonePushes(t *testing.T) {
	s := filled(t, 9, 1, 2, 3, 4, 5)
	a := s.Clone()
	b := a.Clone()
	want(t, "Push", s.Push(6), api.OK)
	want(t, "Push", a.Push(7), api.OK)
	want(t, "Push", b.Push(8), api.OK)
	s.Pop()
	want(t, "Push", s.Push(9), api.OK)
	wantLike(t, "s", s, 9, 1, 2, 3, 4, 5, 9)
	wantLike(t, "a", a, 9, 1, 2, 3, 4, 5, 7)
	wantLike(t, "b", b, 9, 1, 2, 3, 4, 5, 8)
}

// P4.3: the room of a clone is that of the stack, not how many there are, and at both of its ends.
func TestCloneRoom(t *testing.T) {
	for _, c := range []struct{ asked, right int }{{-2, 0}, {0, 0}, {1, 1}, {7, 7}, {65536, 65536}, {65537, 65536}} {
		wantLike(t, "the clone", stack.New[string](c.asked).Clone(), c.right)
	}
	c := filled(t, 2, "a").Clone()
	want(t, "Push", c.Push("b"), api.OK)
	want(t, "Push", c.Push("c"), api.ErrFull)
	wantLike(t, "the clone", c, 2, "a", "b")
}

// R5: one stack does not see what is done to another of the same room and kind.
func TestNewAreUnlike(t *testing.T) {
	a, b := stack.New[int](3), stack.New[int](3)
	want(t, "Push", a.Push(1), api.OK)
	wantLike(t, "the other", b, 3)
	want(t, "Push", b.Push(2), api.OK)
	wantLike(t, "the one", a, 3, 1)
	wantLike(t, "a third", stack.New[int](3), 3)
}

// What a thing refers to is not copied.
func TestThingsAreKeptAsTheyCome(t *testing.T) {
	n := 1
	s := filled(t, 2, &n)
	c := s.Clone()
	n = 2
	for what, got := range map[string]*stack.Stack[*int]{"the stack": s, "the clone": c} {
		wantLike(t, what, got, 2, &n)
		x, e := got.Pop()
		wantTold(t, what+": Pop", x, e, &n, api.OK)
		wantLike(t, what, got, 2)
	}
	lists := stack.New[[]int](1)
	list := []int{1, 2}
	want(t, "Push", lists.Push(list), api.OK)
	list[0] = 9
	if x, e := lists.Pick(0); len(x) != 2 || x[0] != 9 || e != api.OK {
		t.Errorf("Pick = %d, %d", x, e)
	}
	if x, e := lists.Pick(1); x != nil || e != api.ErrEmpty {
		t.Errorf("Pick = %d, %d", x, e)
	}
}

// P4.2, P4.3 over numbers: their bits stay as they came, NaN's too.
func TestNumbersKeepTheirBits(t *testing.T) {
	for _, bits := range []uint64{0, 1 << 63, 0x7ff0000000000000, 0xfff0000000000000, 0x7ff8000000000000, 0x7ff8000000000001, 0xfff0000000000001, 0x3ff0000000000000} {
		s := stack.New[float64](1)
		want(t, "Push", s.Push(math.Float64frombits(bits)), api.OK)
		picked, _ := s.Pick(0)
		all := s.All()
		popped, _ := s.Clone().Pop()
		for _, x := range []float64{picked, all[0], popped} {
			if math.Float64bits(x) != bits {
				t.Errorf("%x came as %x", bits, math.Float64bits(x))
			}
		}
	}
}

// The examples of the chapter.
func TestExamples(t *testing.T) {
	s := stack.New[int](2)
	x, e := s.Pop()
	wantNone(t, "Pop", x, e)
	x, e = s.Pick(0)
	wantNone(t, "Pick", x, e)
	want(t, "Push", s.Push(4), api.OK)
	want(t, "Push", s.Push(5), api.OK)
	want(t, "Push", s.Push(6), api.ErrFull)
	for _, c := range []struct {
		n, right int
		e        api.Errno
	}{{0, 5, api.OK}, {1, 4, api.OK}, {2, 0, api.ErrEmpty}, {-1, 0, api.ErrEmpty}} {
		x, e = s.Pick(c.n)
		wantTold(t, "Pick", x, e, c.right, c.e)
	}
	if all := s.All(); !slices.Equal(all, []int{4, 5}) {
		t.Errorf("All = %d", all)
	}
	x, e = s.Pop()
	wantTold(t, "Pop", x, e, 5, api.OK)
	if s.Len() != 1 || s.Room() != 2 {
		t.Errorf("Len %d, Room %d", s.Len(), s.Room())
	}
	if a, b := stack.New[string](-3).Room(), stack.New[string](1<<40).Room(); a != 0 || b != 65536 {
		t.Errorf("rooms %d, %d", a, b)
	}
}
