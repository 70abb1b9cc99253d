package lines

import (
	"strings"

	"beadle/api"
	"beadle/code"
	"beadle/deque"
	"beadle/table"
	"beadle/text"
	"beadle/tree"
)

// mustBeFree gives up, if there is an engine: what it is made of stays as it is.
func (d *Desk) mustBeFree() {
	if d.made != nil {
		giveUp(api.ErrState)
	}
}

func config(r *row) act {
	c := api.Config{Cells: r.whole(), Threads: r.whole(), Fuel: r.whole(), Writes: r.whole()}
	return func(d *Desk) string {
		d.mustBeFree()
		d.setup.Config, d.setup.Start, d.setup.Threads = c, nil, nil
		return ""
	}
}

func start(r *row) act {
	at := r.numbers()
	return func(d *Desk) string {
		d.mustBeFree()
		d.setup.Start = at
		return ""
	}
}

func program(r *row) act {
	name, listed := r.madeName(), r.text()
	return func(d *Desk) string {
		d.mustBeFree()
		p, e, line := code.Parse(listing(listed))
		if e != api.OK {
			giveUp(e, line)
		}
		d.add(part{name, p})
		return ""
	}
}

// listing is a program's text, a line for each piece.
func listing(s string) string {
	var all strings.Builder
	for piece := range strings.SplitSeq(s, ";") {
		words, _ := text.Split(piece)
		all.WriteString(strings.Join(words, " "))
		all.WriteByte('\n')
	}
	return all.String()
}

// part is a program with its name.
type part struct {
	name string
	p    api.Program
}

// add adds programs. Those that had the names stay, for the calls that mean them.
func (d *Desk) add(parts ...part) {
	if len(d.setup.Programs)+len(parts) > api.MaxPrograms {
		giveUp(api.ErrMany)
	}
	for _, one := range parts {
		d.names[one.name] = len(d.setup.Programs)
		d.setup.Programs = append(d.setup.Programs, one.p)
	}
}

// making is the kind of a line that makes several programs, whose names stand behind its own.
func making(of func(base, cells int) ([]part, api.Errno)) kind {
	return func(r *row) act {
		name, base, cells := r.madeName(), r.whole(), r.whole()
		return func(d *Desk) string {
			d.mustBeFree()
			parts, e := of(base, cells)
			must(e)
			for i := range parts {
				parts[i].name = name + "-" + parts[i].name
			}
			d.add(parts...)
			return ""
		}
	}
}

func trees(base, cells int) ([]part, api.Errno) {
	t, e := tree.Make(base, cells)
	return []part{{"get", t.Get}, {"put", t.Put}, {"del", t.Del}, {"least", t.Least}, {"after", t.After}, {"len", t.Len}, {"all", t.All}}, e
}

func tables(base, cells int) ([]part, api.Errno) {
	t, e := table.Make(base, cells)
	return []part{{"get", t.Get}, {"put", t.Put}, {"del", t.Del}, {"len", t.Len}, {"all", t.All}}, e
}

func deques(base, cells int) ([]part, api.Errno) {
	q, e := deque.Make(base, cells)
	return []part{{"pf", q.PushFront}, {"pb", q.PushBack}, {"of", q.PopFront}, {"ob", q.PopBack}, {"at", q.At}, {"len", q.Len}, {"all", q.All}}, e
}

func call(r *row) act {
	thread, name, args := r.whole(), r.name(), r.numbers()
	return func(d *Desk) string {
		d.mustBeFree()
		if thread >= api.MaxThreads {
			giveUp(api.ErrThread)
		}
		number, is := d.names[name]
		if !is {
			giveUp(api.ErrArg)
		}
		d.join(thread, api.Call{Program: number, Args: args})
		return ""
	}
}

// join adds a call behind those of its thread.
func (d *Desk) join(thread int, c api.Call) {
	for len(d.setup.Threads) <= thread {
		d.setup.Threads = append(d.setup.Threads, nil)
	}
	d.setup.Threads[thread] = append(d.setup.Threads[thread], c)
}
