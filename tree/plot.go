package tree

import "beadle/api"

// The locals.
const (
	number = iota // of the node to which a walk has come, from 1 on; 0: none
	at            // the first of that node's cells
	hold          // the cell with the link to that node
	side          // 1 or the plot's wide: by what the link is multiplied there
	kept          // the first cell of a node that counts behind the walk
)

// What a node's cells hold, from its first one on.
const (
	key = iota
	value
	links
)

// front is by what the link to what stands ahead of a node is multiplied.
const front = 1

// plot is where a tree lies, and for how many pairs. It begins with three cells of the whole, then come three of each node. A link is a node's number, not its cell: so the cells hold the same wherever the tree lies.
type plot struct {
	base, room int
}

// spare holds the link to the node that was given up last (which has the link to the one before it), root that to the root.
func (p plot) spare() int { return p.base }
func (p plot) count() int { return p.base + 1 }
func (p plot) root() int  { return p.base + 2 }

// wide is by what the link to what stands behind a node is multiplied: so both links are one number, and a pair needs three cells.
func (p plot) wide() int { return p.room + 1 }

// fold makes the number of a node, or 0, of a number that was read. Whatever the cells hold, no program leaves the tree's: of what is no whole number NaN comes, which is no address.
func (p plot) fold() ops {
	return join(push(p.wide()), two(api.TwoMod))
}

// folded lays what one of the cells of the whole holds.
func (p plot) folded(cell int) ops {
	return join(push(cell), read(), p.fold())
}

// goTo makes the cells of the node with this number those at which it is.
func (p plot) goTo() ops {
	return join(get(number), push(perPair), two(api.TwoMul), push(p.base), two(api.TwoAdd), set(at))
}

// linked lays the number of the node to which a link goes, by what lays the address of its cell, and its side.
func (p plot) linked(address, side ops) ops {
	return join(address, read(), side, two(api.TwoDiv), one(api.OneFloor), p.fold())
}

// ahead and behind lay the numbers of the nodes to which the one at which it is has links.
func (p plot) ahead() ops  { return p.linked(cell(at, links), push(front)) }
func (p plot) behind() ops { return p.linked(cell(at, links), push(p.wide())) }

// begin is where a walk from the root begins.
func (p plot) begin() ops {
	return join(push(p.root()), set(hold), push(front), set(side))
}

// walk goes down from node to node, till there is none: then it goes on at end. What the turn does at each chooses the side, or leaves; the link that led there is known till then.
func (p plot) walk(again, end int, turn ...ops) ops {
	return join(
		mark(again),
		p.linked(get(hold), get(side)), set(number),
		get(number), to(api.OpUnless, end),
		p.goTo(),
		join(turn...),
		cell(at, links), set(hold),
		to(api.OpJump, again),
	)
}

// turn chooses the side by what lies on the stack: 1, what stands behind, or 0, what stands ahead.
func (p plot) turn() ops {
	return join(push(p.wide()-front), two(api.TwoMul), push(front), two(api.TwoAdd), set(side))
}

// search walks to the node with the key that is the first argument, and goes on at found, or at bottom if there is none.
func (p plot) search() ops {
	return join(p.begin(), p.walk(down, bottom,
		load(at, key), arg(0), two(api.TwoSame), to(api.OpIf, found),
		load(at, key), arg(0), two(api.TwoAhead), p.turn()))
}

// relink changes the number in the link that led to the node by what the parts lay. The other link in that cell stays.
func (p plot) relink(parts ...ops) ops {
	return join(get(hold), read(), join(parts...), get(side), two(api.TwoMul), two(api.TwoAdd), get(hold), write())
}

// grow adds to the count.
func (p plot) grow(by int) ops {
	return join(p.folded(p.count()), push(by), two(api.TwoAdd), push(p.count()), write())
}

// cell lays the address of one of the cells of the node that begins where the local says.
func cell(local, field int) ops {
	return join(get(local), push(field), two(api.TwoAdd))
}

func load(local, field int) ops {
	return join(cell(local, field), read())
}

// store writes what the parts lay.
func store(local, field int, parts ...ops) ops {
	return join(join(parts...), cell(local, field), write())
}

func emitPair(local int) ops {
	return join(load(local, key), emit(), load(local, value), emit())
}
