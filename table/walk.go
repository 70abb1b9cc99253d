package table

import "beadle/api"

// What the cells ahead of the nodes hold, from the table's first one on.
const (
	spare = iota // the link to the node that was given up last, which has the link to the one before it
	count        // how many pairs there are
	rows         // here and in each cell up to the nodes: the link to the first node of a row
)

// wide is how many rows there are: a key's hash tells in which one it stands.
const wide = header - rows

// What a node's cells hold, from its first one on. A link is a node's number, from 1 on; 0: there is none.
const (
	key = iota
	value
	link
)

// The locals.
const (
	number = iota // of the node to which a walk has come
	at            // the first of that node's cells
	hold          // the cell with the link to that node
	row           // the cell with the link to the first node of the row in which a walk is
)

// The labels; a program marks those that it needs.
const (
	down   = iota // a walk goes on
	bottom        // it has come to no node
	here          // it has come to the node that was looked for
	next          // a row is begun
	fits          // there is room
	picked        // it is known which node is taken
	labels        // how many
)

// fold makes the number of a node, or 0, of a number that was read. Whatever the cells hold, no program leaves the table's: of what is no whole number NaN comes, which is no address.
func (m maker) fold() maker { return m.push(m.room + 1).two(api.TwoMod) }

// head lays the address of one of the cells ahead of the nodes, cell that of one of those of the node at which it is.
func (m maker) head(field int) maker { return m.push(m.base + field) }

func (m maker) cell(field int) maker { return m.get(at).push(field).two(api.TwoAdd) }

// goTo makes the cells of the node with this number those at which it is.
func (m maker) goTo() maker {
	return m.get(number).push(perPair).two(api.TwoMul).push(m.base + header - perPair).two(api.TwoAdd).set(at)
}

// walk goes along a row from node to node, till there is none: behind it the program goes on. What is done at each may leave; the link that led there is known till then.
func (m maker) walk(each part) maker {
	m.mark(down).get(hold).read().fold().set(number)
	m.get(number).to(api.OpUnless, bottom)
	each(m.goTo())
	m.cell(link).set(hold).to(api.OpJump, down)
	return m.mark(bottom)
}

// search walks along the row of the first argument's hash, and goes on at here, if there is a node with that key.
func (m maker) search() maker {
	m.arg(0).do(api.OpOne, api.OneHash).push(wide).two(api.TwoMod).head(rows).two(api.TwoAdd).set(hold)
	return m.walk(maker.leaveAtKey)
}

func (m maker) leaveAtKey() maker {
	return m.cell(key).read().arg(0).two(api.TwoSame).to(api.OpIf, here)
}

// everyRow walks along each row, and emits each pair.
func (m maker) everyRow() maker {
	m.head(rows).set(row)
	m.mark(next).get(row).set(hold)
	m.walk(maker.emitPair)
	m.get(row).push(1).two(api.TwoAdd).set(row)
	return m.get(row).head(header).two(api.TwoLess).to(api.OpIf, next)
}

func (m maker) emitPair() maker { return m.cell(key).read().emit().emitValue() }

func (m maker) emitValue() maker { return m.cell(value).read().emit() }
