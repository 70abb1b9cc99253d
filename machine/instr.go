package machine

import (
	"beadle/api"
	"beadle/code"
	"beadle/number"
)

// mustBe gives up, unless it is right: Step catches the error.
func mustBe(right bool, e api.Errno) {
	if !right {
		panic(e)
	}
}

// begin is the next instruction, which counts from now on, whether it can be done or not.
func (m *Machine) begin() api.Instr {
	mustBe(m.used < m.fuel, api.ErrFuel)
	mustBe(m.place < len(m.code), api.ErrBadProgram)
	in := m.code[m.place]
	m.used++
	m.place++
	return in
}

// do does an instruction that was begun. The stacks are looked at first, so that all else may take from them and lay on them without a care.
func (m *Machine) do(in api.Instr) api.Ask {
	m.mustFit(in)
	switch in.Op {
	case api.OpRead:
		return m.read()
	case api.OpWrite:
		return m.write()
	case api.OpAbort:
		return m.ends(api.End{How: api.Aborted, Code: in.N})
	case api.OpHalt:
		return m.ends(api.End{How: api.Committed})
	case api.OpRet:
		return m.ret()
	case api.OpJump, api.OpIf, api.OpUnless, api.OpCall:
		m.move(in)
	default:
		m.reckon(in)
	}
	return api.Ask{Kind: api.AskNone}
}

// mustFit gives up where a stack has too little for an instruction, or no room. What pick looks at it does not take, so its Effect does not tell how much must be there.
func (m *Machine) mustFit(in api.Instr) {
	takes, lays, _ := code.Effect(in.Op)
	least := takes
	if in.Op == api.OpPick {
		least = in.N + 1
	}
	has := m.numbers.Len()
	mustBe(has >= least && has-takes+lays <= m.numbers.Room(), api.ErrStack)
	mustBe(in.Op != api.OpCall || m.calls.Len() < m.calls.Room(), api.ErrStack)
}

// reckon does what concerns numbers alone.
func (m *Machine) reckon(in api.Instr) {
	switch in.Op {
	case api.OpPush:
		m.lay(number.Fix(in.X))
	case api.OpDrop:
		m.take()
	case api.OpDup:
		m.lay(m.pick(0))
	case api.OpSwap:
		x, y := m.take(), m.take()
		m.lay(x)
		m.lay(y)
	case api.OpPick:
		m.lay(m.pick(in.N))
	case api.OpArg:
		m.lay(m.args[in.N])
	case api.OpGet:
		m.lay(m.locals[in.N])
	case api.OpSet:
		m.locals[in.N] = m.take()
	case api.OpOne:
		x, _ := number.One(in.N, m.take())
		m.lay(x)
	case api.OpTwo:
		x, y := m.take(), m.take()
		z, _ := number.Two(in.N, y, x)
		m.lay(z)
	case api.OpEmit:
		m.out = append(m.out, m.take())
	}
}

// move goes on at another place, if it does.
func (m *Machine) move(in api.Instr) {
	goes := true
	switch in.Op {
	case api.OpIf:
		goes = number.True(m.take())
	case api.OpUnless:
		goes = !number.True(m.take())
	case api.OpCall:
		m.calls.Push(m.place)
	}
	if goes {
		m.place = in.N
	}
}

// ret goes back behind the last open call; with none it is the end.
func (m *Machine) ret() api.Ask {
	back, e := m.calls.Pop()
	if e != api.OK {
		return m.ends(api.End{How: api.Committed})
	}
	m.place = back
	return api.Ask{Kind: api.AskNone}
}

// read asks for a cell's number, unless it knows it by its own write.
func (m *Machine) read() api.Ask {
	cell := m.address()
	m.take()
	x, own := m.writes.Get(cell)
	if own {
		m.hasRead(cell, x)
		return api.Ask{Kind: api.AskOwn, Cell: cell, X: x}
	}
	m.waits, m.wanted = true, cell
	return m.wants()
}

// hasRead lays what was read, which has room where the address lay.
func (m *Machine) hasRead(cell int, x float64) {
	m.reads = append(m.reads, api.Touch{Cell: cell, X: x})
	m.lay(x)
}

// write takes its two numbers last, since a full buffer must leave them.
func (m *Machine) write() api.Ask {
	mustBe(m.updates, api.ErrReadOnlyWrite)
	cell, x := m.address(), m.pick(1)
	first, e := m.writes.Put(cell, x)
	mustBe(e == api.OK, e)
	m.take()
	m.take()
	return api.Ask{Kind: api.AskWrite, Cell: cell, X: x, First: first}
}

// address is the cell that the number on top names; the number stays there, for whoever gives up.
func (m *Machine) address() int {
	cell, e := number.Index(m.pick(0), m.cells)
	mustBe(e == api.OK, api.ErrBadProgram)
	return cell
}

// wants is what it asks as long as it waits.
func (m *Machine) wants() api.Ask {
	return api.Ask{Kind: api.AskRead, Cell: m.wanted}
}

// ends notes how it ended.
func (m *Machine) ends(how api.End) api.Ask {
	m.end = how
	return api.Ask{Kind: api.AskEnd}
}

// pick, as take and lay, leaves out the stack's error: mustFit has seen to it that there is none.
func (m *Machine) pick(n int) float64 {
	x, _ := m.numbers.Pick(n)
	return x
}

func (m *Machine) take() float64 {
	x, _ := m.numbers.Pop()
	return x
}

func (m *Machine) lay(x float64) {
	m.numbers.Push(x)
}
