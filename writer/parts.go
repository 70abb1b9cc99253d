package writer

import (
	"beadle/api"
	"beadle/cells"
	"beadle/census"
	"beadle/mem"
	"beadle/ticket"
)

// The parts that an updater goes through.
const (
	partDrawing = iota + 1
	partWaiting
	partMarking
	partRunning
	partScanning
	partWriting
	partPublishing
	partPassing
	partOver
)

// turnTo goes over to a part, of which the next step is.
func (x *Writer) turnTo(part int, next func(x *Writer, m *mem.Mem)) {
	x.part, x.next = part, next
}

func draw(x *Writer, m *mem.Mem) {
	x.ticket, _ = ticket.Draw(m, x.plan)
	x.turnTo(partWaiting, wait)
}

func wait(x *Writer, m *mem.Mem) {
	if served, _ := ticket.Look(m, x.plan, x.ticket); served {
		x.turnTo(partMarking, mark)
	}
}

// mark notes the stamp. It stays as it is till this updater publishes the next one, since nobody else has the turn.
func mark(x *Writer, m *mem.Mem) {
	x.stamp, _ = census.Stamp(m, x.plan)
	x.turnTo(partRunning, run)
}

// run does an instruction. What a cell had is loaded as its first write is done: with the turn nobody else changes it, and a later load would be a step more.
func run(x *Writer, m *mem.Mem) {
	switch ask := x.machine.Step(); ask.Kind {
	case api.AskRead:
		x.machine.Give(x.load(m, ask.Cell))
	case api.AskWrite:
		if ask.First {
			x.had = append(x.had, x.load(m, ask.Cell))
		}
	case api.AskEnd:
		x.end()
	}
}

func (x *Writer) load(m *mem.Mem, cell int) float64 {
	now, _ := cells.Now(m, x.plan, cell)
	return now
}

// end goes on by how the machine has ended: what is not committed has nothing to write, and holds up nobody for a scan.
func (x *Writer) end() {
	if x.machine.End().How != api.Committed {
		x.turnTo(partPassing, pass)
		return
	}
	x.scan = census.Look(x.plan, x.threads, x.stamp)
	x.turnTo(partScanning, scan)
}

func scan(x *Writer, m *mem.Mem) {
	if done, _ := x.scan.Step(m); done {
		x.writeNext()
	}
}

// writeNext begins the write of the next cell, in the order of the first writes; behind the last one there is but to publish.
func (x *Writer) writeNext() {
	l := x.machine.Writes()
	if x.begun == len(l) {
		x.turnTo(partPublishing, publish)
		return
	}
	to := l[x.begun]
	x.writing = cells.Write(x.plan, to.Cell, x.nextStamp(), x.had[x.begun], to.X)
	x.begun++
	x.turnTo(partWriting, write)
}

// nextStamp is the stamp that it publishes, and the version of what it writes.
func (x *Writer) nextStamp() uint64 {
	return x.stamp + 1
}

func write(x *Writer, m *mem.Mem) {
	if done, _ := x.writing.Step(m); done {
		x.writeNext()
	}
}

func publish(x *Writer, m *mem.Mem) {
	x.number = x.nextStamp()
	census.Publish(m, x.plan, x.number)
	x.turnTo(partPassing, pass)
}

func pass(x *Writer, m *mem.Mem) {
	ticket.Pass(m, x.plan, x.ticket)
	x.turnTo(partOver, nil)
}
