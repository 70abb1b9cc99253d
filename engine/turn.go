package engine

import (
	"slices"

	"beadle/api"
	"beadle/mem"
	"beadle/reader"
	"beadle/ticket"
	"beadle/writer"
)

// transaction is a reader or an updater, as a thread goes through it.
type transaction interface {
	Step(m *mem.Mem) (bool, api.Errno)
	Deed() api.Deed
}

// transactionOf is a program at its beginning: an updater just if its tag says so, so that whatever another tag says it is a reader.
func transactionOf(c api.Config, thread int, p api.Program, args []float64) transaction {
	if p.Tag == api.Updates {
		return writer.New(c, thread, p, args)
	}
	return reader.New(c, thread, p, args)
}

// aheadOf is how many are to be served ahead of an updater that has just drawn its ticket. A reader waits for nobody.
func aheadOf(x transaction, m *mem.Mem, p api.Plan) int {
	switch x := x.(type) {
	case *writer.Writer:
		n, _ := ticket.Ahead(m, p, uint64(x.Deed().Mark))
		return n
	default:
		return 0
	}
}

// cloneOf is another one of the same; none of none. Each kind's Clone answers its own type, so the interface can't have it.
func cloneOf(x transaction) transaction {
	switch x := x.(type) {
	case *reader.Reader:
		return x.Clone()
	case *writer.Writer:
		return x.Clone()
	default:
		return nil
	}
}

// turn is a transaction that has begun. Once it is over its deed alone is kept, and changed by nobody, so clones share the deed's lists.
type turn struct {
	going transaction // none, once it is over
	deed  api.Deed    // what the engine knows of it; once it is over, all
}

// told is the deed, in memory of the caller's own; to is how many rounds are over now.
func (u *turn) told(to int) api.Deed {
	if u.going == nil {
		return ownDeed(u.deed)
	}
	d := u.going.Deed()
	d.Thread, d.No, d.Program = u.deed.Thread, u.deed.No, u.deed.Program
	d.Begun, d.Ahead, d.From, d.To = u.deed.Begun, u.deed.Ahead, u.deed.From, to
	return d
}

// close notes with which step it was over, and how many rounds are over behind that.
func (u *turn) close(step, to int) {
	u.deed = u.told(to)
	u.deed.Ended = step
	u.going = nil
}

func (u *turn) clone() turn {
	return turn{going: cloneOf(u.going), deed: u.deed}
}

func ownDeed(d api.Deed) api.Deed {
	d.Args = slices.Clone(d.Args)
	d.Reads = slices.Clone(d.Reads)
	d.Writes = slices.Clone(d.Writes)
	d.Out = slices.Clone(d.Out)
	return d
}
