package history

import (
	"cmp"
	"math"
	"slices"

	"beadle/api"
)

// noMark is the mark of a deed that has none yet.
const noMark = -1

// never is the end of what has not ended: no deed begins behind it.
const never = math.MaxInt

func updates(d api.Deed) bool { return d.Tag == api.Updates }

func placed(d api.Deed) bool { return d.Mark > noMark }

func endOf(d api.Deed) int {
	if d.Ended > 0 {
		return d.Ended
	}
	return never
}

// byMarks is the places of the placed updaters, by rising Marks.
func byMarks(l []api.Deed) []int {
	var updaters []int
	for place, d := range l {
		if updates(d) && placed(d) {
			updaters = append(updaters, place)
		}
	}
	slices.SortFunc(updaters, func(a, b int) int { return cmp.Compare(l[a].Mark, l[b].Mark) })
	return updaters
}

// mayBe tells whether the deeds may be. By rising Marks each updater has but its neighbour to be held against.
func mayBe(l []api.Deed, updaters []int) bool {
	published := 0
	for i, place := range updaters {
		if i > 0 && l[place].Mark == l[updaters[i-1]].Mark {
			return false
		}
		if l[place].Number != 0 {
			published++
			if l[place].Number != published {
				return false
			}
		}
	}
	for _, d := range l {
		if !fits(d, published) {
			return false
		}
	}
	return true
}

// fits tells whether a deed may be where so many have published. A placed updater was held against the others already.
func fits(d api.Deed, published int) bool {
	if updates(d) && placed(d) {
		return true
	}
	return d.Mark >= noMark && d.Mark <= published && d.Number == 0
}

// stretch is updaters next to one another that have published nothing, behind one that has, or ahead of all that have.
type stretch struct {
	ahead int   // how many updaters stand ahead of it
	ended []int // of each one here: the last end of it and of those ahead of it here, so they rise
}

// stretchesOf is one for each stamp, from 0 on. There is one also where nobody stands in it.
func stretchesOf(l []api.Deed, updaters []int) []stretch {
	all := []stretch{{}}
	for i, place := range updaters {
		if l[place].Number > 0 {
			all = append(all, stretch{ahead: i + 1})
			continue
		}
		last := len(all) - 1
		end := endOf(l[place])
		if n := len(all[last].ended); n > 0 {
			end = max(end, all[last].ended[n-1])
		}
		all[last].ended = append(all[last].ended, end)
	}
	return all
}

// behind is how many updaters a reader that began with that step stands behind: those ahead of the stretch, and those of it up to the first one that had not ended. As the ends rise, that one is found by halving, however long the stretch is.
func (s stretch) behind(begun int) int {
	n, _ := slices.BinarySearch(s.ended, begun)
	return s.ahead + n
}

// ranksOf is where each placed deed stands: updaters have odd ranks, and the readers between two of them the even one that is left there.
func ranksOf(l []api.Deed, updaters []int) []int {
	ranks := make([]int, len(l))
	for i, place := range updaters {
		ranks[place] = 2*i + 1
	}
	stretches := stretchesOf(l, updaters)
	for place, d := range l {
		if placed(d) && !updates(d) {
			ranks[place] = 2 * stretches[d.Mark].behind(d.Begun)
		}
	}
	return ranks
}

// byRanks is the places of the placed deeds by rising ranks, those of one rank as they stand in the list.
func byRanks(l []api.Deed, ranks []int) []int {
	var order []int
	for place, d := range l {
		if placed(d) {
			order = append(order, place)
		}
	}
	slices.SortStableFunc(order, func(a, b int) int { return cmp.Compare(ranks[a], ranks[b]) })
	return order
}
