package table

import "beadle/api"

// What each program is made by. A search goes on behind it where there is no such key.

func ofGet() []part {
	return []part{
		maker.search, maker.halt,
		maker.atKey, maker.emitValue, maker.halt,
	}
}

func ofPut() []part {
	return []part{
		maker.search,
		maker.abortIfFull, maker.takeNode, maker.fillNode, maker.linkNode, maker.countUp, maker.tellOne,
		maker.atKey, maker.writeValue, maker.tellNone,
	}
}

func ofDel() []part {
	return []part{
		maker.search, maker.tellNone,
		maker.atKey, maker.passNode, maker.spareNode, maker.countDown, maker.tellOne,
	}
}

func ofLen() []part {
	return []part{maker.layCount, maker.emit, maker.halt}
}

func ofAll() []part {
	return []part{maker.everyRow, maker.halt}
}

// atKey is where a search goes on that has come to its key.
func (m maker) atKey() maker { return m.mark(here) }

func (m maker) layCount() maker { return m.head(count).read().fold() }

func (m maker) abortIfFull() maker {
	return m.layCount().push(m.room).two(api.TwoLess).to(api.OpIf, fits).do(api.OpAbort, fullCode).mark(fits)
}

// takeNode goes to a node that is no pair's. If none is spare, all that were ever taken are pairs', and the first one behind them is free: what it holds as its link is +0, as if it were the last spare one.
func (m maker) takeNode() maker {
	m.head(spare).read().fold().set(number)
	m.get(number).to(api.OpIf, picked)
	m.layCount().push(1).two(api.TwoAdd).set(number)
	m.mark(picked).goTo()
	return m.cell(link).read().head(spare).write()
}

func (m maker) fillNode() maker {
	return m.arg(0).cell(key).write().writeValue().push(0).cell(link).write()
}

func (m maker) writeValue() maker { return m.arg(1).cell(value).write() }

// linkNode puts the node at the end of its row, where the search has come to no other.
func (m maker) linkNode() maker { return m.get(number).get(hold).write() }

// passNode lays the node's link in the place of the one that led there.
func (m maker) passNode() maker { return m.cell(link).read().get(hold).write() }

func (m maker) spareNode() maker {
	return m.head(spare).read().cell(link).write().get(number).head(spare).write()
}

func (m maker) countUp() maker { return m.grow(1) }

func (m maker) countDown() maker { return m.grow(-1) }

// grow adds to the count.
func (m maker) grow(by int) maker {
	return m.layCount().push(by).two(api.TwoAdd).head(count).write()
}

func (m maker) tellOne() maker { return m.tell(1) }

func (m maker) tellNone() maker { return m.tell(0) }

// tell ends the program with a number emitted.
func (m maker) tell(n int) maker { return m.push(n).emit().halt() }
