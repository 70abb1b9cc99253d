package deque

import (
	"beadle/api"
	"beadle/asm"
)

// piece adds some instructions of a program behind those that there are. What it needs to know for that it has closed over, so one piece may stand in many programs.
type piece func(b *asm.Builder)

// The labels; a program marks those that it needs.
const (
	fits   = iota // there is room
	next          // there may be one more number
	done          // all that was asked for is told
	labels        // how many
)

// program puts one together. All labels of this package are there for each: those that it does not name do no harm. There is no error to be told: Make hands in no base that is too great, and no other thing changes what may be.
func program(tag int, pieces ...piece) api.Program {
	b := asm.New(tag)
	for range labels {
		b.Label()
	}
	join(pieces...)(b)
	made, _ := b.Program()
	return made
}

// join is all pieces as one.
func join(pieces ...piece) piece {
	return func(b *asm.Builder) {
		for _, add := range pieces {
			add(b)
		}
	}
}

func do(op, n int) piece {
	return func(b *asm.Builder) { b.Add(op, n) }
}

func push(n int) piece {
	return func(b *asm.Builder) { b.Push(float64(n)) }
}

func to(op, label int) piece {
	return func(b *asm.Builder) { b.To(op, label) }
}

func mark(label int) piece {
	return func(b *asm.Builder) { b.Mark(label) }
}

func one(n int) piece { return do(api.OpOne, n) }

func two(n int) piece { return do(api.OpTwo, n) }

func get(local int) piece { return do(api.OpGet, local) }

func set(local int) piece { return do(api.OpSet, local) }

func read() piece { return do(api.OpRead, 0) }

func write() piece { return do(api.OpWrite, 0) }

func emit() piece { return do(api.OpEmit, 0) }

func halt() piece { return do(api.OpHalt, 0) }
