package history_test

import (
	"fmt"
	"math"
	"testing"

	"beadle/api"
)

// crowd is deeds that may be: two updaters that have published, two that have not, readers of each stamp, some that are not placed, some of no tag.
func crowd() []api.Deed {
	return []api.Deed{updater(6, 2), updater(8, 0), updater(4, 0), reader(2), reader(1), updater(2, 1), reader(0), updater(-1, 0), reader(-1), {Mark: 2}, {Tag: 3, Mark: -1}}
}

// P17.1 to P17.4: each ground by itself why deeds may not be.
func TestMayNotBe(t *testing.T) {
	wantOrder(t, "the crowd", crowd(), 6, 5, 4, 2, 0, 3, 9, 1)
	const last, waiting = 3, 7 // a reader of the last stamp, an updater that is not placed
	grounds := map[string]func(l []api.Deed){
		"a reader's Mark -2":                  func(l []api.Deed) { l[4].Mark = -2 },
		"an updater's Mark -2":                func(l []api.Deed) { l[1].Mark = -2 },
		"the Mark -2 of no tag":               func(l []api.Deed) { l[9].Mark = -2 },
		"the least Mark of an updater":        func(l []api.Deed) { l[7].Mark = math.MinInt },
		"the least Mark of a reader":          func(l []api.Deed) { l[8].Mark = math.MinInt },
		"the Mark of one that has published":  func(l []api.Deed) { l[1].Mark = 6 },
		"the Mark of one that has not":        func(l []api.Deed) { l[1].Mark = 4 },
		"the Mark 0 twice":                    func(l []api.Deed) { l[5].Mark, l[2].Mark = 0, 0 },
		"the greatest Mark twice":             func(l []api.Deed) { l[0].Mark, l[1].Mark = math.MaxInt, math.MaxInt },
		"a Mark thrice":                       func(l []api.Deed) { l[1].Mark, l[2].Mark, l[0].Mark = 6, 6, 6 },
		"the Mark of both that have":          func(l []api.Deed) { l[0].Mark = 2 },
		"an updater's Number -1":              func(l []api.Deed) { l[1].Number = -1 },
		"the first updater's Number -1":       func(l []api.Deed) { l[5].Number = -1 },
		"an updater's least Number":           func(l []api.Deed) { l[2].Number = math.MinInt },
		"a reader's Number -1":                func(l []api.Deed) { l[last].Number = -1 },
		"the Number -1 of no tag":             func(l []api.Deed) { l[10].Number = -1 },
		"the Number -1 of one not placed":     func(l []api.Deed) { l[waiting].Number = -1 },
		"a reader's Number -1, not placed":    func(l []api.Deed) { l[8].Number = -1 },
		"a reader's Number 1":                 func(l []api.Deed) { l[last].Number = 1 },
		"a reader's Number, the next one":     func(l []api.Deed) { l[last].Number = 3 },
		"a reader's Number, its Mark":         func(l []api.Deed) { l[last].Number = l[last].Mark },
		"a reader's greatest Number":          func(l []api.Deed) { l[6].Number = math.MaxInt },
		"a Number of no tag":                  func(l []api.Deed) { l[9].Number = 3 },
		"a reader's Number, not placed":       func(l []api.Deed) { l[8].Number = 3 },
		"a Number of one not placed":          func(l []api.Deed) { l[waiting].Number = 3 },
		"the Number 1 of one not placed":      func(l []api.Deed) { l[waiting].Number = 1 },
		"the greatest Number, not placed":     func(l []api.Deed) { l[waiting].Number = math.MaxInt },
		"Numbers that begin with 2":           func(l []api.Deed) { l[5].Number, l[0].Number, l[3].Mark, l[9].Mark = 2, 3, 1, 1 },
		"the Number 2 alone":                  func(l []api.Deed) { l[5].Number, l[3].Mark, l[9].Mark = 0, 1, 1 },
		"the Numbers 1 and 3":                 func(l []api.Deed) { l[0].Number = 3 },
		"the Number 1 twice":                  func(l []api.Deed) { l[0].Number = 1 },
		"the Number 2 twice":                  func(l []api.Deed) { l[1].Number = 2 },
		"the Number 1 again at last":          func(l []api.Deed) { l[1].Number = 1 },
		"Numbers against the Marks":           func(l []api.Deed) { l[0].Number, l[5].Number = 1, 2 },
		"the greatest Number":                 func(l []api.Deed) { l[0].Number = math.MaxInt },
		"a reader's Mark 3 of two":            func(l []api.Deed) { l[last].Mark = 3 },
		"a reader's greatest Mark":            func(l []api.Deed) { l[6].Mark = math.MaxInt },
		"the Mark 3 of no tag":                func(l []api.Deed) { l[9].Mark = 3 },
		"a reader's Mark beside one fewer":    func(l []api.Deed) { l[0].Number = 0 },
		"readers' Marks where none published": func(l []api.Deed) { l[0].Number, l[5].Number = 0, 0 },
	}
	for what, spoil := range grounds {
		l := crowd()
		spoil(l)
		wantMayNotBe(t, what, l)
	}
}

// P17.1: a single deed of each kind at the edges of its Mark and Number.
func TestMayBeOfOne(t *testing.T) {
	for _, tag := range []int{api.Reads, api.Updates, 0, 3, -1, math.MinInt, math.MaxInt} {
		for _, mark := range []int{math.MinInt, -2, -1, 0, 1, 2, math.MaxInt - 1, math.MaxInt} {
			for _, number := range []int{math.MinInt, -1, 0, 1, 2, math.MaxInt} {
				l := []api.Deed{{Tag: tag, Mark: mark, Number: number}}
				what := fmt.Sprintf("%+v", l[0])
				switch {
				case mark == -1 && number == 0:
					wantOrder(t, what, l)
				case tag == api.Updates && mark >= 0 && (number == 0 || number == 1), tag != api.Updates && mark == 0 && number == 0:
					wantOrder(t, what, l, 0)
				default:
					wantMayNotBe(t, what, l)
				}
			}
		}
	}
}

// P17.1: a reader's Mark that is just how many have Numbers, and one more, whatever other updaters there are.
func TestReadersMarks(t *testing.T) {
	for published := range 6 {
		for others := range 4 {
			var l []api.Deed
			for i := range published {
				l = append(l, updater(i, i+1))
			}
			for i := range others {
				l = append(l, updater(100+i, 0), updater(-1, 0))
			}
			for mark := range published + 4 {
				what := fmt.Sprint("the Mark ", mark, " of ", published, " and ", others)
				for _, tag := range []int{api.Reads, 0, 7} {
					with := append(ownDeeds(l), api.Deed{Tag: tag, Mark: mark})
					if mark > published {
						wantMayNotBe(t, what, with)
					} else if !mayBe(with) {
						t.Errorf("%s: the model has it otherwise", what)
					} else {
						wantOrder(t, what, with, orderOf(with)...)
					}
				}
			}
		}
	}
}

// P17.1 to P17.4: no deeds at all, and none that are placed.
func TestNoDeeds(t *testing.T) {
	for _, l := range [][]api.Deed{nil, {}, make([]api.Deed, 0, 3), {reader(-1)}, {updater(-1, 0)}, {reader(-1), {Mark: -1}, updater(-1, 0), reader(-1)}} {
		what := fmt.Sprint(len(l), " deeds")
		wantOrder(t, what, l)
		wantTimely(t, what, l, -1)
		wantExplained(t, what, chapters(), l, 3)
	}
}
