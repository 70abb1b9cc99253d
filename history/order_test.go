package history_test

import (
	"fmt"
	"math"
	"slices"
	"testing"

	"beadle/api"
	"beadle/history"
)

// permuted calls something with each order of the numbers below n.
func permuted(n int, do func(order []int)) {
	var grow func(order []int)
	grow = func(order []int) {
		if len(order) == n {
			do(order)
			return
		}
		for i := range n {
			if !slices.Contains(order, i) {
				grow(append(own(order), i))
			}
		}
	}
	grow(nil)
}

// P17.1: updaters stand by their Marks, in whatever order the list has them, and whether they have published or not; Marks that are left out leave nothing.
func TestOrderOfUpdaters(t *testing.T) {
	for _, marks := range [][]int{{0, 1, 2, 3, 4}, {3, 4, 70, 1 << 40, math.MaxInt}, {0, 1, math.MaxInt - 2, math.MaxInt - 1, math.MaxInt}} {
		for _, numbers := range [][]int{{0, 0, 0, 0, 0}, {1, 2, 3, 4, 5}, {0, 1, 0, 2, 0}, {1, 0, 0, 0, 2}} {
			permuted(5, func(order []int) {
				l := make([]api.Deed, 5)
				for i, place := range order {
					l[place] = updater(marks[i], numbers[i])
				}
				wantOrder(t, fmt.Sprint(marks, numbers), l, order...)
			})
		}
	}
}

// P17.1: readers of the Mark 0 stand ahead of all, those of another one just behind the updater that has published it; those of one place as the list has them.
func TestOrderOfReaders(t *testing.T) {
	l := []api.Deed{reader(2), reader(0), reader(3), updater(9, 3), reader(1), reader(0), updater(5, 1), reader(3), reader(2), updater(7, 2), reader(1), reader(0), reader(3)}
	wantOrder(t, "each stamp", l, 1, 5, 11, 6, 4, 10, 9, 0, 8, 3, 2, 7, 12)
	permuted(6, func(order []int) {
		l := []api.Deed{reader(0), reader(0), reader(1), reader(1), updater(4, 1), {Tag: 9, Mark: 1}}
		var mixed []api.Deed
		for _, i := range order {
			mixed = append(mixed, l[i])
		}
		wantOrder(t, fmt.Sprint("mixed ", order), mixed, orderOf(mixed)...)
	})
	wantOrder(t, "readers alone", []api.Deed{reader(0), {Mark: 0}, reader(0), {Tag: -7}}, 0, 1, 2, 3)
}

// P17.1: when a deed began and ended counts but for readers and those next to them that have published nothing.
func TestStepsDoNotCountElsewhere(t *testing.T) {
	l := []api.Deed{within(updater(0, 1), 50, 60), within(reader(0), 99, 0), within(updater(1, 2), 1, 2), within(reader(1), 100, 3), within(reader(1), 99, 1), within(updater(2, 0), 3, 200)}
	wantOrder(t, "steps", l, 1, 0, 3, 4, 2, 5)
}

// P17.1: readers behind updaters that had ended unpublished when they began: none, one, several in a row, up to the first one that is not so.
func TestReadersBehindWhatHadEnded(t *testing.T) {
	for _, mark := range []int{0, 1} {
		// Tickets 1 to 4 have published nothing, 5 has, 6 has not.
		row := []api.Deed{within(updater(0, mark), 1, 4), within(updater(1, 0), 1, 10), within(updater(2, 0), 1, 20), within(updater(3, 0), 1, 15), within(updater(4, 0), 1, 30), within(updater(5, mark+1), 1, 40), within(updater(6, 0), 1, 50)}
		if mark == 0 {
			row = row[1:]
		}
		for begun, behind := range map[int]int{
			math.MinInt: 0, -5: 0, 0: 0, 1: 0, 9: 0, 10: 0, 11: 1, 15: 1, 16: 1, 20: 1, 21: 3, 29: 3, 30: 3, 31: 4, 41: 4, 51: 4, 1000: 4, math.MaxInt: 4,
		} {
			l := append([]api.Deed{within(reader(mark), begun, 0)}, row...)
			order := []int{1, 2, 3, 4, 5, 6, 7}[:len(row)]
			wantOrder(t, fmt.Sprint("the Mark ", mark, ", begun with ", begun), l, slices.Insert(order, mark+behind, 0)...)
		}
	}
}

// P17.1: what had not ended stops a reader, whatever had ended behind it: Ended 0, below 0, with the step with which the reader began, later; or a Number.
func TestReadersStopAtTheFirst(t *testing.T) {
	for _, ended := range []int{math.MinInt, -1, 0, 10, 11, 1 << 40, math.MaxInt} {
		l := []api.Deed{within(updater(0, 0), 1, 5), within(updater(1, 0), 1, ended), within(updater(2, 0), 1, 6), within(reader(0), 10, 0)}
		wantOrder(t, fmt.Sprint("Ended ", ended), l, 0, 3, 1, 2)
	}
	for _, ended := range []int{1, 2, 9} {
		l := []api.Deed{within(updater(0, 0), 1, 5), within(updater(1, 0), 1, ended), within(updater(2, 0), 1, 6), within(reader(0), 10, 0)}
		wantOrder(t, fmt.Sprint("Ended ", ended), l, 0, 1, 2, 3)
		l[1].Number = 1
		wantOrder(t, fmt.Sprint("Ended ", ended, ", published"), l, 0, 3, 1, 2)
		l[3].Mark = 1
		wantOrder(t, fmt.Sprint("Ended ", ended, ", its stamp"), l, 0, 1, 2, 3)
	}
	// The greatest step: nothing begins behind it.
	wantOrder(t, "the greatest", []api.Deed{within(updater(0, 0), 1, math.MaxInt-1), within(updater(1, 0), 1, math.MaxInt), within(reader(0), math.MaxInt, 0)}, 0, 2, 1)
}

// P17.1: several readers of one stamp behind unlike many; where they stand at one place, the list's order holds, not that of their beginning.
func TestReadersOfOneStamp(t *testing.T) {
	l := []api.Deed{
		within(reader(0), 30, 0), within(reader(0), 12, 0), within(updater(1, 0), 2, 20), within(reader(0), 5, 0),
		within(reader(0), 11, 0), within(updater(0, 0), 1, 10), within(reader(0), 25, 0), within(reader(0), 4, 0),
	}
	wantOrder(t, "one stamp", l, 3, 7, 5, 1, 4, 2, 0, 6)
}

// P17.1: deeds that are not placed stand nowhere, and hold up nobody.
func TestUnplacedStandNowhere(t *testing.T) {
	l := []api.Deed{within(updater(-1, 0), 1, 0), within(reader(0), 9, 0), within(reader(-1), 1, 2), within(updater(3, 0), 1, 4), within(updater(-1, 0), 1, 2), within(reader(0), 2, 0), {Mark: -1}}
	wantOrder(t, "beside others", l, 5, 3, 1)
}

// kinds is each deed that there is of these fields.
func kinds(tags, marks, numbers, begun, ended []int) []api.Deed {
	var all []api.Deed
	for _, tag := range tags {
		for _, mark := range marks {
			for _, number := range numbers {
				for _, b := range begun {
					for _, e := range ended {
						all = append(all, api.Deed{Tag: tag, Mark: mark, Number: number, Begun: b, Ended: e})
					}
				}
			}
		}
	}
	return all
}

// P17.1, P17.4: every list of two deeds, of three and of four, over fields that say all that counts.
func TestEveryShortHistory(t *testing.T) {
	tags := []int{api.Reads, api.Updates}
	for long, all := range map[int][]api.Deed{
		1: kinds([]int{api.Reads, api.Updates, 0, 3}, []int{-2, -1, 0, 1, 2}, []int{-1, 0, 1, 2}, []int{0, 1, 2}, []int{-1, 0, 1, 2}),
		2: kinds(tags, []int{-2, -1, 0, 1, 2}, []int{-1, 0, 1, 2}, []int{1, 2}, []int{0, 1}),
		3: kinds(tags, []int{-1, 0, 1}, []int{0, 1}, []int{1, 2}, []int{0, 1}),
		4: slices.Concat(kinds([]int{api.Updates}, []int{0, 1, 2}, []int{0, 1}, []int{1}, []int{0, 1}), kinds([]int{api.Reads}, []int{0, 1}, []int{0}, []int{1, 2}, []int{0})),
	} {
		l, may := make([]api.Deed, long), 0
		var fill func(from int)
		fill = func(from int) {
			if from == long {
				if wantPlacesAsModel(t, "a short history", l) {
					may++
				}
				return
			}
			for _, d := range all {
				if l[from] = d; !t.Failed() {
					fill(from + 1)
				}
			}
		}
		fill(0)
		if may < 40 {
			t.Errorf("of those of %d but %d may be", long, may)
		}
	}
}

// historyBy is deeds that may be, in any order.
func historyBy(by *rule, most int) []api.Deed {
	var l []api.Deed
	mark, published := 0, 0
	for range by.below(most + 1) {
		mark += 1 + by.below(2)*by.below(5)
		d := updater(mark, 0)
		if by.below(3) == 0 {
			published++
			d.Number = published
		}
		l = append(l, d)
	}
	for range by.below(most + 1) {
		l = append(l, api.Deed{Tag: []int{api.Reads, api.Reads, 0, 3}[by.below(4)], Mark: by.below(published+2) - 1})
	}
	for range by.below(4) {
		l = append(l, updater(-1, 0))
	}
	for i := range l {
		l[i].Begun, l[i].Ended = by.below(20), by.below(26)-5
		j := by.below(i + 1)
		l[i], l[j] = l[j], l[i]
	}
	return l
}

// P17.1, P17.4: long histories, each as it is, and with one field of a deed changed.
func TestLongHistories(t *testing.T) {
	may, timely, mayNot := 0, 0, 0
	for seed := range 30000 {
		by := rule(seed)
		l := historyBy(&by, 1+by.below(12))
		if !wantPlacesAsModel(t, "a long history", l) {
			t.Fatalf("it may not be: %+v", l)
		}
		if untimely(l) == -1 {
			timely++
		}
		if len(l) == 0 {
			continue
		}
		d := &l[by.below(len(l))]
		*[]*int{&d.Tag, &d.Mark, &d.Number, &d.Begun, &d.Ended}[by.below(5)] = by.below(12) - 2
		if wantPlacesAsModel(t, "changed", l) {
			may++
		} else {
			mayNot++
		}
		if t.Failed() {
			return
		}
	}
	if may < 2000 || mayNot < 2000 || timely < 2000 {
		t.Errorf("changed, may be: %d, may not be: %d; timely: %d", may, mayNot, timely)
	}
}

// P17.1, P17.4, R1: as many deeds as no engine has, all of them in one stretch: the calls end soon.
func TestManyDeeds(t *testing.T) {
	const many = 200_000
	var l []api.Deed
	for i := range many {
		l = append(l, within(updater(many-i, 0), 1, 2+many-i), within(reader(0), 2+i, 0))
	}
	order, e := history.Order(l)
	if e != api.OK || len(order) != 2*many {
		t.Fatalf("Order: %d, %d", len(order), e)
	}
	// The updater with the ticket n ended with step 2 + n, so the reader that began with step b is behind b - 3 of them.
	if order[0] != 1 || order[1] != 3 || order[2] != 2*(many-1) || order[3] != 5 || order[2*many-1] != 0 || order[2*many-3] != 2*many-1 {
		t.Errorf("Order begins with %v, ends with %v", order[:5], order[2*many-5:])
	}
	if place, e := history.Timely(l); place != -1 || e != api.OK {
		t.Errorf("Timely: %d, %d", place, e)
	}
}
