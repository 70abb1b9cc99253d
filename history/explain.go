package history

import (
	"math"
	"slices"

	"beadle/alone"
	"beadle/api"
	"beadle/state"
)

// replay goes through the deeds in their order: the first one that is not explained, or nobody, and the numbers behind all that were laid till then.
func replay(s api.Setup, l []api.Deed) (int, *state.State, api.Errno) {
	numbers, e := atFirst(s)
	if e != api.OK {
		return 0, nil, e
	}
	order, e := Order(l)
	if e != api.OK {
		return 0, nil, e
	}
	for _, place := range order {
		if !explained(s, l[place], numbers) {
			return place, numbers, api.OK
		}
		if l[place].Number > 0 {
			numbers.Apply(l[place].Writes)
		}
	}
	for place, d := range l {
		if !placed(d) && !untouched(d) {
			return place, numbers, api.OK
		}
	}
	return nobody, numbers, api.OK
}

// atFirst is the numbers that the cells have at first. Which configs may be is told by alone, which refuses no others where there are no calls.
func atFirst(s api.Setup) (*state.State, api.Errno) {
	numbers, e := state.New(s.Config.Cells)
	if e != api.OK || len(s.Start) > s.Config.Cells {
		return nil, api.ErrArg
	}
	if _, e := alone.Calls(s.Config, nil, nil, numbers); e != api.OK {
		return nil, api.ErrArg
	}
	for cell, x := range s.Start {
		numbers.Set(cell, x)
	}
	return numbers, api.OK
}

// untouched tells whether a deed that is not placed is explained: nothing can have been done as yet.
func untouched(d api.Deed) bool {
	return len(d.Reads) == 0 && len(d.Writes) == 0 && len(d.Out) == 0 && d.End == api.End{}
}

// explained tells whether a placed deed is explained over the numbers. Its program runs on a clone: whether it has published the deed says, not how the program ends.
func explained(s api.Setup, d api.Deed, numbers *state.State) bool {
	if !isCall(s, d) {
		return false
	}
	r, _ := alone.Run(s.Config, s.Programs[d.Program], d.Args, numbers.Clone())
	if !publishedAsEnded(d, r) {
		return false
	}
	if d.End.How == api.Going && d.Number == 0 {
		return wentSoFar(d, r)
	}
	return wentWhole(d, r)
}

// isCall tells whether the deed can be of a call of the setup's programs.
func isCall(s api.Setup, d api.Deed) bool {
	return d.Program >= 0 && d.Program < len(s.Programs) && s.Programs[d.Program].Tag == d.Tag && len(d.Args) <= api.MaxArgs
}

// publishedAsEnded tells whether none has published but one that commits, and none is over Committed that has not.
func publishedAsEnded(d api.Deed, r api.Result) bool {
	if d.Number > 0 {
		return r.End.How == api.Committed
	}
	return !updates(d) || d.End.How != api.Committed
}

// wentWhole tells whether all of a deed is as it is alone. One that has published may have its ticket to pass on still.
func wentWhole(d api.Deed, r api.Result) bool {
	ended := d.End == r.End || d.Number > 0 && d.End == api.End{}
	return ended && slices.EqualFunc(d.Reads, r.Reads, sameTouch) && slices.EqualFunc(d.Writes, r.Writes, sameTouch) && slices.EqualFunc(d.Out, r.Out, same)
}

// wentSoFar tells whether a deed that goes on is as it is alone as far as it has come. What it has written may be written once more, so its Writes are no beginning of those at the end.
func wentSoFar(d api.Deed, r api.Result) bool {
	return d.End == api.End{} && begins(d.Reads, r.Reads, sameTouch) && begins(d.Out, r.Out, same)
}

// begins tells whether the whole list begins with those first ones.
func begins[T any](first, whole []T, alike func(a, b T) bool) bool {
	return len(first) <= len(whole) && slices.EqualFunc(first, whole[:len(first)], alike)
}

func sameTouch(a, b api.Touch) bool {
	return a.Cell == b.Cell && same(a.X, b.X)
}

// same tells whether two numbers are the same once they are fixed: by their bits, but that a NaN of any bits is the one NaN.
func same(a, b float64) bool {
	return math.Float64bits(a) == math.Float64bits(b) || a != a && b != b
}
