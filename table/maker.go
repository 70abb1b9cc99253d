package table

import (
	"beadle/api"
	"beadle/asm"
)

// plot is where a table lies, and for how many pairs.
type plot struct {
	base, room int
}

// maker puts one program together. Each of its methods adds some instructions behind those that there are, and hands the maker on, so that the next ones may be named behind them.
type maker struct {
	plot
	b *asm.Builder
}

// part is a method of a maker's: a program is made by some of them, one behind the other.
type part func(maker) maker

// program makes one. All labels of this package are there for each: those that it does not name do no harm. There is no error to be told: Make hands in no base that is too great, and no other thing changes what may be.
func (p plot) program(tag int, parts []part) api.Program {
	m := maker{p, asm.New(tag)}
	for range labels {
		m.b.Label()
	}
	for _, add := range parts {
		add(m)
	}
	made, _ := m.b.Program()
	return made
}

func (m maker) do(op, n int) maker {
	m.b.Add(op, n)
	return m
}

func (m maker) push(n int) maker {
	m.b.Push(float64(n))
	return m
}

func (m maker) to(op, label int) maker {
	m.b.To(op, label)
	return m
}

func (m maker) mark(label int) maker {
	m.b.Mark(label)
	return m
}

func (m maker) two(n int) maker { return m.do(api.OpTwo, n) }

func (m maker) arg(n int) maker { return m.do(api.OpArg, n) }

func (m maker) get(local int) maker { return m.do(api.OpGet, local) }

func (m maker) set(local int) maker { return m.do(api.OpSet, local) }

func (m maker) read() maker { return m.do(api.OpRead, 0) }

func (m maker) write() maker { return m.do(api.OpWrite, 0) }

func (m maker) emit() maker { return m.do(api.OpEmit, 0) }

func (m maker) halt() maker { return m.do(api.OpHalt, 0) }
