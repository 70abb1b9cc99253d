package census

import (
	"beadle/api"
	"beadle/mem"
)

// The accesses of a coming, as they come behind one another.
const (
	loadClaim = iota
	storeClaim
	loadStamp
	accessesOfComing
)

// Coming is a reader's coming in, a word a step. The stamp is loaded once more when the claim stands: scans that missed the claim may have let many stamps by since the first load, those that begin from now on wait for it.
type Coming struct {
	stampAt      int
	seat         seat
	next         int
	claim, stamp uint64
}

// Come begins one.
func Come(p api.Plan, thread int) *Coming {
	return &Coming{stampAt: p.Stamp, seat: seat{p.Census, thread}}
}

// Step does an access, and tells whether it is over.
func (c *Coming) Step(m *mem.Mem) (bool, api.Errno) {
	if c.over() {
		return false, api.ErrState
	}
	if !c.seat.mayBe() {
		return false, api.ErrThread
	}
	if e := c.access(m); e != api.OK {
		return false, e
	}
	c.next++
	return c.over(), api.OK
}

func (c *Coming) over() bool {
	return c.next == accessesOfComing
}

// access does the next access. What is told beside an error is 0, as the claim and the stamp are till they are loaded.
func (c *Coming) access(m *mem.Mem) api.Errno {
	var e api.Errno
	switch c.next {
	case loadClaim:
		c.claim, e = m.Load(c.stampAt)
	case storeClaim:
		e = m.Store(c.seat.place(), wordOf(c.claim))
	case loadStamp:
		c.stamp, e = m.Load(c.stampAt)
	}
	return e
}

// Claim is the stamp that stands in the census for the reader.
func (c *Coming) Claim() uint64 {
	return c.claim
}

// Stamp is the stamp that the reader has.
func (c *Coming) Stamp() uint64 {
	return c.stamp
}

// Clone is another one that stands as this one.
func (c *Coming) Clone() *Coming {
	other := *c
	return &other
}
