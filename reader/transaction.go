package reader

import (
	"math"
	"slices"

	"beadle/api"
	"beadle/cells"
	"beadle/machine"
	"beadle/mem"
)

// transaction is what every transaction has, whether it reads or updates: where the words lie, the machine that runs its program, how many steps it has done; and the tag and the arguments as they were handed in, since no machine tells them.
type transaction struct {
	plan    api.Plan
	machine *machine.Machine
	steps   int
	tag     int
	args    []float64 // changed by nobody, so clones share them
}

// begin makes one that has done no step; false: the config, or that many arguments, may not be.
func begin(c api.Config, p api.Program, args []float64) (transaction, bool) {
	plan, e := mem.Place(c)
	runs := machine.New(c, p, args)
	if e != api.OK || runs == nil {
		return transaction{}, false
	}
	return transaction{plan: plan, machine: runs, tag: p.Tag, args: fixed(args)}, true
}

// fixed is the numbers as cells tell what stands in a word: so which NaN is the one is not said here once more.
func fixed(l []float64) []float64 {
	all := make([]float64, len(l))
	for i, x := range l {
		all[i] = cells.At(api.Triple{Now: math.Float64bits(x)}, 0)
	}
	return all
}

// fits is whether all words of the plan are there.
func (t *transaction) fits(m *mem.Mem) bool {
	return m.Len() >= t.plan.Words
}

// open begins a step.
func (t *transaction) open(m *mem.Mem) {
	m.Open()
	t.steps++
}

// deed is what can be told without knowing how far it has come: neither a mark nor an end.
func (t *transaction) deed() api.Deed {
	return api.Deed{
		Tag:    t.tag,
		Args:   slices.Clone(t.args),
		Reads:  t.machine.Reads(),
		Writes: t.machine.Writes(),
		Out:    t.machine.Out(),
		Steps:  t.steps,
	}
}

// clone is another one of the same.
func (t *transaction) clone() transaction {
	other := *t
	other.machine = t.machine.Clone()
	return other
}
