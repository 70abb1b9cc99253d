package history_test

import (
	"slices"
	"testing"

	"beadle/alone"
	"beadle/api"
	"beadle/history"
	"beadle/state"
)

// What follows has the chapter's words one by one, each reckoned from all deeds, however long that takes.

func isUpdater(d api.Deed) bool { return d.Tag == api.Updates }

func isPlaced(d api.Deed) bool { return d.Mark >= 0 }

func hadEnded(d, when api.Deed) bool { return d.Ended > 0 && d.Ended < when.Begun }

func mayBe(l []api.Deed) bool {
	numbered := 0
	for i, d := range l {
		if d.Mark < -1 || d.Number < 0 || d.Number > 0 && (!isUpdater(d) || !isPlaced(d)) {
			return false
		}
		for _, o := range l[i+1:] {
			if isUpdater(d) && isUpdater(o) && isPlaced(d) && d.Mark == o.Mark {
				return false
			}
		}
		if d.Number > 0 {
			numbered++
			if d.Number != numberOf(l, d) {
				return false
			}
		}
	}
	for _, d := range l {
		if !isUpdater(d) && d.Mark > numbered {
			return false
		}
	}
	return true
}

// numberOf is which of those with Numbers a deed is, by its Mark.
func numberOf(l []api.Deed, d api.Deed) int {
	n := 1
	for _, o := range l {
		if o.Number > 0 && o.Mark < d.Mark {
			n++
		}
	}
	return n
}

func orderOf(l []api.Deed) []int {
	var updaters []int
	for place, d := range l {
		if isUpdater(d) && isPlaced(d) {
			at := 0
			for at < len(updaters) && l[updaters[at]].Mark < d.Mark {
				at++
			}
			updaters = slices.Insert(updaters, at, place)
		}
	}
	var order []int
	for at := range len(updaters) + 1 {
		for place, d := range l {
			if !isUpdater(d) && isPlaced(d) && standsBehind(l, updaters, d) == at {
				order = append(order, place)
			}
		}
		if at < len(updaters) {
			order = append(order, updaters[at])
		}
	}
	return order
}

// standsBehind is how many of the updaters a reader stands behind.
func standsBehind(l []api.Deed, updaters []int, d api.Deed) int {
	at := 0
	if d.Mark > 0 {
		for l[updaters[at]].Number != d.Mark {
			at++
		}
		at++
	}
	for at < len(updaters) && l[updaters[at]].Number == 0 && hadEnded(l[updaters[at]], d) {
		at++
	}
	return at
}

func untimely(l []api.Deed) int {
	order := orderOf(l)
	for i, place := range order {
		for _, other := range order[i+1:] {
			if hadEnded(l[other], l[place]) {
				return place
			}
		}
	}
	return -1
}

func sameFixed(a, b []float64) bool {
	return slices.EqualFunc(a, b, func(x, y float64) bool { return fixed(x) == fixed(y) })
}

func sameTouches(a, b []api.Touch) bool {
	return slices.EqualFunc(a, b, func(x, y api.Touch) bool { return x.Cell == y.Cell && fixed(x.X) == fixed(y.X) })
}

func isExplained(s api.Setup, d api.Deed, numbers []float64) bool {
	if d.Program < 0 || d.Program >= len(s.Programs) || s.Programs[d.Program].Tag != d.Tag || len(d.Args) > 8 {
		return false
	}
	over, _ := state.Of(numbers)
	r, e := alone.Run(s.Config, s.Programs[d.Program], d.Args, over)
	if e != api.OK {
		panic("the model: a run that is refused")
	}
	if d.Number > 0 && r.End != committed || isUpdater(d) && d.End.How == api.Committed && d.Number == 0 {
		return false
	}
	if d.End.How != api.Going || d.Number > 0 {
		return sameTouches(d.Reads, r.Reads) && sameTouches(d.Writes, r.Writes) && sameFixed(d.Out, r.Out) && (d.End == r.End || d.Number > 0 && d.End == going)
	}
	return d.End == going && len(d.Reads) <= len(r.Reads) && sameTouches(d.Reads, r.Reads[:len(d.Reads)]) && len(d.Out) <= len(r.Out) && sameFixed(d.Out, r.Out[:len(d.Out)])
}

// unexplained is the deed that Explain has to tell, and the numbers behind all ahead of it.
func unexplained(s api.Setup, l []api.Deed) (int, []float64) {
	numbers := make([]float64, s.Config.Cells)
	for cell, x := range s.Start {
		numbers[cell] = of(fixed(x))
	}
	for _, place := range orderOf(l) {
		if !isExplained(s, l[place], numbers) {
			return place, nil
		}
		if l[place].Number > 0 {
			for _, w := range l[place].Writes {
				numbers[w.Cell] = of(fixed(w.X))
			}
		}
	}
	for place, d := range l {
		if !isPlaced(d) && (len(d.Reads)+len(d.Writes)+len(d.Out) > 0 || d.End != going) {
			return place, nil
		}
	}
	return -1, numbers
}

// wantAsModel holds what all calls tell of deeds against the model, and tells what Explain is to tell; below -1: they may not be.
func wantAsModel(t *testing.T, what string, s api.Setup, l []api.Deed) int {
	t.Helper()
	if !mayBe(l) {
		wantMayNotBe(t, what, l)
		wantNoReplay(t, what, s, l, api.ErrHistory)
		return -2
	}
	wantOrder(t, what, l, orderOf(l)...)
	wantTimely(t, what, l, untimely(l))
	place, final := unexplained(s, l)
	if place == -1 {
		wantExplained(t, what, s, l, final...)
	} else {
		wantTold(t, what, s, l, place)
	}
	return place
}

// wantPlacesAsModel holds but Order and Timely against the model, and tells whether the deeds may be.
func wantPlacesAsModel(t *testing.T, what string, l []api.Deed) bool {
	t.Helper()
	order, e := history.Order(l)
	place, f := history.Timely(l)
	if !mayBe(l) {
		if len(order) != 0 || place != 0 || e != api.ErrHistory || f != api.ErrHistory {
			t.Errorf("%s: %+v: Order: %v, %d, Timely: %d, %d, want ErrHistory", what, l, order, e, place, f)
		}
		return false
	}
	if want := orderOf(l); !slices.Equal(order, want) || e != api.OK {
		t.Errorf("%s: %+v: Order: %v, %d, want %v", what, l, order, e, want)
	}
	if want := untimely(l); place != want || f != api.OK {
		t.Errorf("%s: %+v: Timely: %d, %d, want %d", what, l, place, f, want)
	}
	return true
}
