package deque

import "beadle/api"

// What the cells ahead of the numbers hold, from the deque's first one on. The others are a ring: behind the last one comes the first one of them again.
const (
	front  = iota // in which cell of the ring the first number stands, from 0 on: so the cells hold the same wherever the deque lies
	count         // how many numbers there are
	header        // how many cells are no number's
)

// The locals.
const (
	first = iota // what the cell front holds
	many         // what the cell count holds
	index        // of the number that comes next
)

// dial is what may be done with a cell that holds a whole number from 0 to its size - 1, of which a local is the copy: to load it, and to go to the next number or to the one before it, round and round.
type dial struct {
	load, up, down piece
}

// dialAt closes over the cell.
func dialAt(cell, size, local int) dial {
	turn := func(by int) piece {
		return join(get(local), push(by), two(api.TwoAdd), foldTo(size), set(local), get(local), push(cell), write())
	}
	return dial{
		load: join(push(cell), read(), set(local)),
		up:   turn(1),
		down: turn(size - 1),
	}
}

// foldTo makes of a whole number from 0 on what is left of it, divided by the size; of any other number NaN.
func foldTo(size int) piece { return join(push(size), two(api.TwoMod)) }

// row is what the programs are made of that hangs on where the deque lies, and for how many numbers.
type row struct {
	front, count dial
	needRoom     piece // ends the program, if there is no room
	fold         piece // makes of a number below the room the index of one, or NaN
	cell         piece // makes of an index the address of the cell of that number
}

// rowAt makes it: each piece closes over both. Whatever the cells hold, no program leaves the deque's: an address is made of what was folded, and NaN is none.
func rowAt(base, room int) row {
	fold := foldTo(room)
	return row{
		front:    dialAt(base+front, room, first),
		count:    dialAt(base+count, room+1, many),
		needRoom: join(get(many), push(room), two(api.TwoLess), to(api.OpIf, fits), do(api.OpAbort, fullCode), mark(fits)),
		fold:     fold,
		cell:     join(get(first), two(api.TwoAdd), fold, push(base+header), two(api.TwoAdd)),
	}
}

// load makes the locals what the cells hold.
func (r row) load() piece { return join(r.count.load, r.front.load) }

// put writes the first argument as the number at the index that the piece lays.
func (r row) put(at piece) piece { return join(do(api.OpArg, 0), at, r.cell, write()) }

// tell emits the number at the index that the piece lays.
func (r row) tell(at piece) piece { return join(at, r.cell, read(), emit()) }
