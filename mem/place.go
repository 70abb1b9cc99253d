package mem

import "beadle/api"

// The words ahead of the census, and those of each cell.
const (
	heads   = 3
	perCell = 3
)

// Place tells where things lie in a memory of an engine of this size.
func Place(c api.Config) (api.Plan, api.Errno) {
	if !mayBe(c) {
		return api.Plan{}, api.ErrArg
	}
	cells := heads + c.Threads
	return api.Plan{
		Next:    0,
		Serving: 1,
		Stamp:   2,
		Census:  heads,
		Cells:   cells,
		Words:   cells + perCell*c.Cells,
	}, api.OK
}

func mayBe(c api.Config) bool {
	return within(c.Cells, api.MaxCells) &&
		within(c.Threads, api.MaxThreads) &&
		within(c.Fuel, api.MaxFuel) &&
		within(c.Writes, api.MaxWrites)
}

func within(n, greatest int) bool {
	return n >= 1 && n <= greatest
}
