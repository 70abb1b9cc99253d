package history_test

import (
	"fmt"
	"math"
	"testing"

	"beadle/api"
)

// P17.4: a deed ahead of another one, by the steps with which that one ended and it began: the same step is not too late, nor is an end that there is not.
func TestTimelyOfTwo(t *testing.T) {
	steps := []int{math.MinInt, -2, -1, 0, 1, 2, 3, 7, math.MaxInt - 1, math.MaxInt}
	for _, begun := range steps {
		for _, ended := range steps {
			what := fmt.Sprint("begun with ", begun, ", the other one ended with ", ended)
			late := -1
			if ended > 0 && ended < begun {
				late = 1
			}
			wantTimely(t, what+", updaters", []api.Deed{within(updater(1, 2), 0, ended), within(updater(0, 1), begun, 0)}, late)
			wantTimely(t, what+", unpublished", []api.Deed{within(updater(1, 0), 0, ended), within(updater(0, 0), begun, 0)}, late)
			wantTimely(t, what+", a reader behind", []api.Deed{within(reader(1), 0, ended), within(updater(0, 1), begun, 0)}, late)
			wantTimely(t, what+", a reader ahead", []api.Deed{within(updater(0, 1), 0, ended), within(reader(0), begun, 0)}, late)
			wantTimely(t, what+", the other way round", []api.Deed{within(updater(0, 1), 0, ended), within(updater(1, 2), begun, 0)}, -1)
			wantTimely(t, what+", of one", []api.Deed{within(updater(0, 1), begun, ended)}, -1)
			late = min(late, 0)
			wantTimely(t, what+", two readers", []api.Deed{within(reader(0), begun, 0), within(reader(0), 0, ended)}, late)
		}
	}
}

// P17.4: of several the first one in the order is told, not the first one in the list, nor the one that is latest.
func TestTimelyTellsTheFirst(t *testing.T) {
	l := []api.Deed{within(updater(3, 4), 90, 95), within(updater(2, 3), 40, 50), within(updater(0, 1), 9, 10), within(updater(1, 2), 20, 30), within(reader(4), 2, 19)}
	wantTimely(t, "20 behind 19", l, 3)
	l[4].Ended = 8
	wantTimely(t, "9 behind 8", l, 2)
	l[4].Ended = 20
	wantTimely(t, "40 behind 20", l, 1)
	l[4].Ended = 89
	wantTimely(t, "90 behind 89", l, 0)
	l[4].Ended = 90
	wantTimely(t, "90 with 90", l, -1)
	l[4].Ended = 0
	wantTimely(t, "one that has not ended", l, -1)
}

// P17.4: the other one may stand anywhere behind it, with others between that had not ended.
func TestTimelyOfAnyBehind(t *testing.T) {
	for n := 1; n <= 12; n++ {
		for late := range n {
			for early := range n {
				l := make([]api.Deed, n)
				for i := range l {
					l[i] = within(updater(n-i, 0), 100, 0)
					if i%2 == 0 {
						l[i].Ended = 200
					}
				}
				l[early].Ended = 150
				l[late].Begun = 151
				want := -1
				if early < late {
					want = late
				}
				wantTimely(t, fmt.Sprint(late, " ahead of ", early, " of ", n), l, want)
			}
		}
	}
}

// P17.4: deeds that are not placed are not in the order: neither late, nor those that another one is too late for.
func TestTimelyOfUnplaced(t *testing.T) {
	l := []api.Deed{within(reader(-1), 50, 1), within(updater(0, 1), 20, 30), within(updater(-1, 0), 9, 2), within(reader(1), 25, 40), {Mark: -1, Begun: 99, Ended: 1}}
	wantTimely(t, "not placed", l, -1)
	l[3].Ended = 19
	wantTimely(t, "beside others", l, 1)
}
