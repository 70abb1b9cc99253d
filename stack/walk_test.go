package stack_test

import (
	"strconv"
	"testing"

	"beadle/api"
	"beadle/stack"
)

// model is a stack told from its other end: its things stand in a chain, each on the one below it.
type model[T comparable] struct {
	top  *link[T]
	room int
}

type link[T comparable] struct {
	thing T
	below *link[T]
	high  int
}

func (m *model[T]) high() int {
	if m.top == nil {
		return 0
	}
	return m.top.high
}

func (m *model[T]) push(x T) api.Errno {
	if m.high() == m.room {
		return api.ErrFull
	}
	m.top = &link[T]{x, m.top, m.high() + 1}
	return api.OK
}

func (m *model[T]) pop() (T, api.Errno) {
	if m.top == nil {
		var none T
		return none, api.ErrEmpty
	}
	x := m.top.thing
	m.top = m.top.below
	return x, api.OK
}

func (m *model[T]) all() []T {
	all := make([]T, m.high())
	for l := m.top; l != nil; l = l.below {
		all[l.high-1] = l.thing
	}
	return all
}

// walk lets a stack and a model go by the same row of calls, and holds the one against the other behind each of them.
// A clone stays behind at each fork; at the end it must still be as it was then.
func walk[T comparable](t *testing.T, room int, row []int, thing func(i int) T) {
	t.Helper()
	s, m := stack.New[T](room), &model[T]{room: room}
	forks := map[*stack.Stack[T]][]T{}
	for i, what := range row {
		name := "room " + strconv.Itoa(room) + ", call " + strconv.Itoa(i)
		switch what {
		case 0:
			want(t, name+": Push", s.Push(thing(i)), m.push(thing(i)))
		case 1:
			x, e := s.Pop()
			right, rightE := m.pop()
			wantTold(t, name+": Pop", x, e, right, rightE)
		case 2:
			forks[s] = m.all()
			s = s.Clone()
		case 3:
			s.Clear()
			m.top = nil
		case 4:
			pushAndPop(t, name, s, thing(-i))
		}
		wantLike(t, name, s, room, m.all()...)
		if s.Len() > s.Room() {
			t.Errorf("%s: Len %d above Room %d", name, s.Len(), s.Room())
		}
	}
	for fork, things := range forks {
		wantLike(t, "a fork", fork, room, things...)
	}
}

// P4.4: Pop behind a Push that was answered OK tells what was pushed; that the stack is as it was, the walk makes sure.
func pushAndPop[T comparable](t *testing.T, name string, s *stack.Stack[T], x T) {
	t.Helper()
	if s.Push(x) != api.OK {
		return
	}
	got, e := s.Pop()
	wantTold(t, name+": Pop behind Push", got, e, x, api.OK)
}

// P4.1 to P4.4: every row of 6 calls, over rooms from 0 to 3.
func TestEveryShortRow(t *testing.T) {
	const kinds, long = 5, 6
	row := make([]int, long)
	for room := range 4 {
		for n := range kinds * kinds * kinds * kinds * kinds * kinds {
			for i := range row {
				row[i] = n % kinds
				n /= kinds
			}
			walk(t, room, row, func(i int) int { return 100 + i })
		}
	}
}

// P4.1 to P4.4: long rows, from a rule, over numbers and over texts.
func TestLongRows(t *testing.T) {
	kinds := []int{0, 0, 0, 1, 4, 0, 1, 0, 2, 0, 0, 1, 0, 4, 1, 0, 3, 0, 0, 0}
	seed := uint32(1)
	for room := range 20 {
		row := make([]int, 300)
		for i := range row {
			seed = seed*1664525 + 1013904223
			row[i] = kinds[int(seed>>16)%len(kinds)]
		}
		walk(t, room, row, func(i int) float64 { return float64(i) / 8 })
		walk(t, room, row, func(i int) string { return strconv.Itoa(i % 7) })
		walk(t, room, row, func(i int) [2]int { return [2]int{i, -i} })
	}
}
