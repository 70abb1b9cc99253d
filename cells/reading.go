package cells

import (
	"beadle/api"
	"beadle/mem"
	"beadle/number"
)

// Reading is a read of a cell at a stamp, a word a step. What it does next is bound to the cell and the stamp, which stay as they are, and is told whose step it is: so a clone may have the same one.
type Reading struct {
	next    func(r *Reading, m *mem.Mem) api.Errno // none, once it is over
	version uint64                                 // what the first step told
	now     float64                                // what the second one told: not the read's number as yet
	value   float64
	steps   int
	torn    bool
}

// view is a cell as it is seen from a stamp.
type view struct {
	spot
	stamp uint64
}

// Read begins one.
func Read(p api.Plan, cell int, stamp uint64) *Reading {
	v := view{spot{p.Cells, cell}, stamp}
	return &Reading{next: v.loadVersion}
}

// Step does an access, and tells whether it is over. What failed stays next, so that it may be tried again.
func (r *Reading) Step(m *mem.Mem) (bool, api.Errno) {
	if r.over() {
		return false, api.ErrState
	}
	if e := r.next(r, m); e != api.OK {
		return false, e
	}
	r.steps++
	return r.over(), api.OK
}

// Value is what was read, Steps how many accesses it took, Torn whether it was torn.
func (r *Reading) Value() float64 {
	return r.value
}

func (r *Reading) Steps() int {
	return r.steps
}

func (r *Reading) Torn() bool {
	return r.torn
}

// Clone is another one of the same.
func (r *Reading) Clone() *Reading {
	c := *r
	return &c
}

func (r *Reading) over() bool {
	return r.next == nil
}

func (r *Reading) end(x float64) {
	r.value = x
	r.next = nil
}

// loadVersion is the first step: a version above the stamp says that Now came too late for this read.
func (v view) loadVersion(r *Reading, m *mem.Mem) api.Errno {
	version, e := v.load(m, wordVersion)
	if e != api.OK {
		return e
	}
	r.version = version
	r.next = v.loadNow
	if version > v.stamp {
		r.next = v.loadWas
	}
	return api.OK
}

func (v view) loadNow(r *Reading, m *mem.Mem) api.Errno {
	bits, e := v.load(m, wordNow)
	if e != api.OK {
		return e
	}
	r.now = number.Of(bits)
	r.next = v.loadVersionAgain
	return api.OK
}

// loadVersionAgain tells whether somebody wrote between: then the number of Now may be the new one.
func (v view) loadVersionAgain(r *Reading, m *mem.Mem) api.Errno {
	version, e := v.load(m, wordVersion)
	if e != api.OK {
		return e
	}
	if version == r.version {
		r.end(r.now)
		return api.OK
	}
	r.torn = true
	r.next = v.loadWas
	return api.OK
}

func (v view) loadWas(r *Reading, m *mem.Mem) api.Errno {
	bits, e := v.load(m, wordWas)
	if e != api.OK {
		return e
	}
	r.end(number.Of(bits))
	return api.OK
}
