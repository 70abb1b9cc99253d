package bounds

import (
	"iter"

	"beadle/api"
)

// most is the greatest count that a deed may have. It is so small that what is reckoned with it does not wrap round.
const most = 1 << 40

// mayBe tells whether all that the deeds count may be.
func mayBe(l []api.Deed) bool {
	for n := range counts(l) {
		if n < 0 || n > most {
			return false
		}
	}
	return true
}

// counts goes over what each deed counts, whether its bound hangs on it or not.
func counts(l []api.Deed) iter.Seq[int] {
	return func(yield func(n int) bool) {
		for _, d := range l {
			if !yield(d.Steps) || !yield(d.Ahead) || !yield(d.From) || !yield(d.To) {
				return
			}
		}
	}
}

// excesses goes over the deeds that have a bound: the place of each, and by how much it is beyond (0 or below: it is not). An updater without a ticket has no bound as yet, since nobody knows who is ahead of it.
func excesses(l []api.Deed, reader, writer int) iter.Seq2[int, int] {
	return func(yield func(place, excess int) bool) {
		for place, d := range l {
			if d.Tag == api.Updates && d.Mark < 0 {
				continue
			}
			if !yield(place, excessOf(d, reader, writer)) {
				return
			}
		}
	}
}

// excessOf holds a reader's own steps against its bound, as it waits for nobody, but the rounds of an updater, as those ahead of it take theirs.
func excessOf(d api.Deed, reader, writer int) int {
	if d.Tag != api.Updates {
		return d.Steps - reader
	}
	return d.To - d.From - (d.Ahead+1)*writer
}
