package tree

import "beadle/api"

// The labels; a program marks those that it needs.
const (
	down   = iota // a walk goes on
	bottom        // it has come to no node
	found         // it has come to the node that was looked for
	second        // a second walk goes on
	first         // and has come to the first of the nodes there
	lone          // the node has one link at most
	fits          // there is room
	picked        // it is known which node is taken
	past          // something is passed over
	done
	labels // how many
)

func (p plot) get() api.Program {
	return program(api.Reads,
		p.search(),
		mark(found), load(at, value), emit(),
		mark(bottom), halt(),
	)
}

// put writes a new pair where the search has come to no node. Of the nodes that were never taken the first is the one behind all that there are, if none is spare; what it holds as its links is +0, as if it were the last spare one.
func (p plot) put() api.Program {
	return program(api.Updates,
		p.search(),
		mark(found), store(at, value, arg(1)), tell(0),
		mark(bottom),
		p.folded(p.count()), push(p.room), two(api.TwoLess), to(api.OpIf, fits),
		do(api.OpAbort, fullCode),
		mark(fits), p.folded(p.spare()), set(number),
		get(number), to(api.OpIf, picked),
		p.folded(p.count()), push(1), two(api.TwoAdd), set(number),
		mark(picked), p.goTo(),
		load(at, links), push(p.spare()), write(),
		store(at, key, arg(0)), store(at, value, arg(1)), store(at, links, push(0)),
		p.relink(get(number)),
		p.grow(1),
		tell(1),
	)
}

// del takes a node out by laying the one that it links to in its place. One with both links is given the pair that stands next behind it, and that one's node, which has none ahead, is taken out.
func (p plot) del() api.Program {
	return program(api.Updates,
		p.search(),
		mark(bottom), tell(0),
		mark(found),
		p.ahead(), to(api.OpUnless, lone), p.behind(), to(api.OpUnless, lone),
		get(at), set(kept),
		cell(at, links), set(hold), push(p.wide()), set(side),
		p.walk(second, bottom, p.ahead(), to(api.OpUnless, first), push(front), set(side)),
		mark(first), store(kept, key, load(at, key)), store(kept, value, load(at, value)),
		mark(lone), p.relink(p.ahead(), p.behind(), two(api.TwoAdd), get(number), two(api.TwoSub)),
		store(at, links, p.folded(p.spare())), get(number), push(p.spare()), write(),
		p.grow(-1),
		tell(1),
	)
}

func (p plot) least() api.Program {
	return program(api.Reads,
		p.begin(), p.walk(down, bottom, get(at), set(kept)),
		mark(bottom), emitKept(),
	)
}

// after keeps the last node that stands behind the argument: a walk that goes on ahead of it comes to none but nearer ones.
func (p plot) after() api.Program {
	return program(api.Reads,
		p.begin(), p.walk(down, bottom,
			arg(0), load(at, key), two(api.TwoAhead),
			do(api.OpDup, 0), to(api.OpUnless, past),
			get(at), set(kept),
			mark(past), one(api.OneNot), p.turn()),
		mark(bottom), emitKept(),
	)
}

func (p plot) len() api.Program {
	return program(api.Reads, p.folded(p.count()), emit(), halt())
}

// all lays each node on the stack and walks on ahead of it; whenever it has come to none, the node on top is the next one, and it walks on behind that. No node begins at the cell 0, which lies below them all.
func (p plot) all() api.Program {
	return program(api.Reads,
		push(0),
		p.begin(), p.walk(down, bottom, get(at), push(front), set(side)),
		mark(bottom), do(api.OpDup, 0), to(api.OpUnless, done),
		set(at), emitPair(at),
		cell(at, links), set(hold), push(p.wide()), set(side),
		to(api.OpJump, down),
		mark(done), halt(),
	)
}

// emitKept ends with the kept node's pair, if one was kept.
func emitKept() ops {
	return join(get(kept), to(api.OpUnless, done), emitPair(kept), mark(done), halt())
}
