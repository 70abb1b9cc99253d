package deque

import "beadle/api"

func (r row) pushFront() api.Program {
	return program(api.Updates,
		r.load(), r.needRoom,
		r.front.down, r.put(push(0)),
		r.count.up, tellMany(),
	)
}

func (r row) pushBack() api.Program {
	return program(api.Updates,
		r.load(), r.needRoom,
		r.put(get(many)),
		r.count.up, tellMany(),
	)
}

func (r row) popFront() api.Program {
	return program(api.Updates,
		r.load(), get(many), to(api.OpUnless, done),
		r.tell(push(0)),
		r.front.up, r.count.down,
		mark(done), halt(),
	)
}

func (r row) popBack() api.Program {
	return program(api.Updates,
		r.load(), get(many), to(api.OpUnless, done),
		r.count.down, r.tell(get(many)),
		mark(done), halt(),
	)
}

// at looks first whether the argument is below how many there are: so what is left of it behind the fold is itself (+0 of -0), or it was no index.
func (r row) at() api.Program {
	arg := do(api.OpArg, 0)
	return program(api.Reads,
		r.load(), arg, get(many), two(api.TwoLess), to(api.OpUnless, done),
		arg, r.fold, one(api.OneIsNaN), to(api.OpIf, done),
		r.tell(arg),
		mark(done), halt(),
	)
}

func (r row) len() api.Program {
	return program(api.Reads, r.count.load, tellMany())
}

func (r row) all() api.Program {
	return program(api.Reads,
		r.load(),
		mark(next), get(index), get(many), two(api.TwoLess), to(api.OpUnless, done),
		r.tell(get(index)),
		get(index), push(1), two(api.TwoAdd), set(index), to(api.OpJump, next),
		mark(done), halt(),
	)
}

// tellMany ends with how many numbers there are emitted.
func tellMany() piece { return join(get(many), emit(), halt()) }
