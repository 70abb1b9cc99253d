package lines

// act is what a line does at a desk; it tells what stands in the answer behind ok.
type act func(d *Desk) string

// kind reads the words behind the first one.
type kind func(r *row) act

// kinds is what a line does, by its first word.
func kinds() map[string]kind {
	return map[string]kind{
		"config":  config,
		"start":   start,
		"program": program,
		"tree":    making(trees),
		"table":   making(tables),
		"deque":   making(deques),
		"call":    call,
		"run":     run,
		"rounds":  rounds,
		"state":   bare(state),
		"deeds":   bare(deeds),
		"out":     out,
		"order":   bare(order),
		"judge":   bare(judge),
		"again":   bare(again),
	}
}

// bare is the kind of a line without further words.
func bare(does act) kind {
	return func(*row) act { return does }
}
