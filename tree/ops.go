package tree

import (
	"slices"

	"beadle/api"
	"beadle/asm"
)

// What an op is.
const (
	plain  = iota // an instruction
	pushes        // one that lays a number
	goes          // one that goes to a label
	stands        // none: a label stands here
)

// op is one thing of which a program is put together; n is its N, its number or its label.
type op struct {
	kind, code, n int
}

// ops are some of them, one behind the other.
type ops []op

// program puts one together. All labels of this package are there for each: those that it does not name do no harm. There is no error to be told: Make hands in no base that is too great, and no other thing changes what may be.
func program(tag int, parts ...ops) api.Program {
	b := asm.New(tag)
	for range labels {
		b.Label()
	}
	for _, o := range join(parts...) {
		add(b, o)
	}
	p, _ := b.Program()
	return p
}

func add(b *asm.Builder, o op) {
	switch o.kind {
	case pushes:
		b.Push(float64(o.n))
	case goes:
		b.To(o.code, o.n)
	case stands:
		b.Mark(o.n)
	default:
		b.Add(o.code, o.n)
	}
}

// join is all parts as one.
func join(parts ...ops) ops {
	return slices.Concat(parts...)
}

func push(n int) ops { return ops{{kind: pushes, n: n}} }

func to(code, label int) ops { return ops{{goes, code, label}} }

func mark(label int) ops { return ops{{kind: stands, n: label}} }

func do(code, n int) ops { return ops{{plain, code, n}} }

func one(n int) ops { return do(api.OpOne, n) }

func two(n int) ops { return do(api.OpTwo, n) }

func arg(n int) ops { return do(api.OpArg, n) }

func get(local int) ops { return do(api.OpGet, local) }

func set(local int) ops { return do(api.OpSet, local) }

func read() ops { return do(api.OpRead, 0) }

func write() ops { return do(api.OpWrite, 0) }

// tell ends the program with a number emitted.
func tell(n int) ops {
	return join(push(n), emit(), halt())
}

func emit() ops { return do(api.OpEmit, 0) }

func halt() ops { return do(api.OpHalt, 0) }
