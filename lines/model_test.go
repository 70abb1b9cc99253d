package lines_test

import (
	"fmt"
	"regexp"
	"strconv"
	"strings"
	"testing"

	"beadle/api"
	"beadle/bounds"
	"beadle/code"
	"beadle/deque"
	"beadle/engine"
	"beadle/history"
	"beadle/lines"
	"beadle/table"
	"beadle/text"
	"beadle/tree"
)

// rule is a row of numbers that looks as if thrown.
type rule uint64

func (r *rule) below(n int) int {
	*r = *r*6364136223846793005 + 1442695040888963407
	return int(uint64(*r>>33) % uint64(n))
}

func oneOf[T any](r *rule, all ...T) T { return all[r.below(len(all))] }

// forms are the lines of the chapter's table, each by how its words are written; how great a number may be they do not say.
var forms = func() []*regexp.Regexp {
	words := strings.NewReplacer(
		"N", `(0|[1-9][0-9]{0,9})`,
		"MADE", `[a-z][a-z0-9-]{0,9}`,
		"CALLED", `[a-z][a-z0-9-]{0,15}`,
		"X", `(nan|-?inf|-?0|-?[1-9][0-9]{0,15}|x[0-9a-f]{16})`,
		"TEXT", `[^ \t](?s:.*)`,
		"_", `[ \t]+`,
	)
	var all []*regexp.Regexp
	for _, form := range []string{
		"config_N_N_N_N", "start(_X)*", "program_MADE_TEXT", "(tree|table|deque)_MADE_N_N", "call_N_CALLED(_X)*",
		"run(_N)*", "rounds_N", "state", "deeds", "out_N_N", "order", "judge", "again",
	} {
		all = append(all, regexp.MustCompile(`^[ \t]*`+words.Replace(form)+`[ \t]*$`))
	}
	return all
}()

// wordsOf goes by the two bytes alone.
func wordsOf(line string) []string {
	return strings.FieldsFunc(line, func(r rune) bool { return r == ' ' || r == '\t' })
}

// isLine tells whether the chapter's table has the line.
func isLine(line string) bool {
	for _, form := range forms {
		if form.MatchString(line) {
			return numbersMayBe(wordsOf(line))
		}
	}
	return false
}

// numbersMayBe looks at the values alone: how they are written is looked at before.
func numbersMayBe(words []string) bool {
	firstX := map[string]int{"start": 1, "call": 3}
	for i, word := range words {
		from, has := firstX[words[0]]
		switch {
		case has && i >= from:
			if _, e := text.Parse(word); e != api.OK {
				return false
			}
		case words[0] == "program":
			return true
		case i > 0 && word[0] >= '0' && word[0] <= '9' && whole(word) > 1<<31-1:
			return false
		}
	}
	return true
}

func whole(word string) int {
	n, _ := strconv.Atoi(word)
	return n
}

// model is a desk in the chapter's words.
type model struct {
	s     api.Setup
	names map[string]int
	e     *engine.Engine
}

func newModel() *model {
	return &model{s: api.Setup{Config: api.Config{Cells: 1, Threads: 1, Fuel: 1024, Writes: 32}}, names: map[string]int{}}
}

// line is the answer to a line that the table has.
func (m *model) line(line string) string {
	words := wordsOf(line)
	switch words[0] {
	case "again":
		m.e = nil
		return "ok"
	case "config", "start", "program", "tree", "table", "deque", "call":
		if m.e != nil {
			return "error 3"
		}
		return m.set(words, line)
	}
	if m.e == nil {
		e, fault := engine.New(m.s)
		if fault != api.OK {
			return fmt.Sprint("error ", int(fault))
		}
		m.e = e
	}
	return m.tell(words)
}

func (m *model) set(words []string, line string) string {
	switch words[0] {
	case "config":
		m.s.Config = api.Config{Cells: whole(words[1]), Threads: whole(words[2]), Fuel: whole(words[3]), Writes: whole(words[4])}
		m.s.Start, m.s.Threads = nil, nil
		return "ok"
	case "start":
		m.s.Start = numbersOf(words[1:])
		return "ok"
	case "call":
		return m.call(whole(words[1]), words[2], numbersOf(words[3:]))
	case "program":
		p, e, at := code.Parse(listed(line))
		if e != api.OK {
			return fmt.Sprintf("error %d %d", e, at)
		}
		return m.add([]string{words[1]}, p)
	}
	names, programs, e := structure(words[0], whole(words[2]), whole(words[3]))
	if e != api.OK {
		return fmt.Sprint("error ", int(e))
	}
	for i := range names {
		names[i] = words[1] + "-" + names[i]
	}
	return m.add(names, programs...)
}

func (m *model) add(names []string, programs ...api.Program) string {
	if len(m.s.Programs)+len(programs) > 64 {
		return "error 160"
	}
	for i, name := range names {
		m.names[name] = len(m.s.Programs) + i
	}
	m.s.Programs = append(m.s.Programs, programs...)
	return "ok"
}

func (m *model) call(thread int, name string, args []float64) string {
	number, is := m.names[name]
	switch {
	case thread >= 8:
		return "error 100"
	case !is:
		return "error 1"
	}
	for len(m.s.Threads) < thread+1 {
		m.s.Threads = append(m.s.Threads, nil)
	}
	m.s.Threads[thread] = append(m.s.Threads[thread], api.Call{Program: number, Args: args})
	return "ok"
}

// listed goes by the bytes behind the NAME.
func listed(line string) string {
	rest := line
	for range 2 {
		rest = strings.TrimLeft(rest, " \t")
		rest = rest[strings.IndexAny(rest, " \t"):]
	}
	s := ""
	for _, piece := range strings.Split(rest, ";") {
		s += strings.Join(wordsOf(piece), " ") + "\n"
	}
	return s
}

func numbersOf(words []string) []float64 {
	var all []float64
	for _, word := range words {
		x, _ := text.Parse(word)
		all = append(all, x)
	}
	return all
}

// structure is the programs of a tree, a table or a deque, and their names' ends.
func structure(kind string, base, cells int) ([]string, []api.Program, api.Errno) {
	switch kind {
	case "tree":
		s, e := tree.Make(base, cells)
		return []string{"get", "put", "del", "least", "after", "len", "all"}, []api.Program{s.Get, s.Put, s.Del, s.Least, s.After, s.Len, s.All}, e
	case "table":
		s, e := table.Make(base, cells)
		return []string{"get", "put", "del", "len", "all"}, []api.Program{s.Get, s.Put, s.Del, s.Len, s.All}, e
	}
	s, e := deque.Make(base, cells)
	return []string{"pf", "pb", "of", "ob", "at", "len", "all"}, []api.Program{s.PushFront, s.PushBack, s.PopFront, s.PopBack, s.At, s.Len, s.All}, e
}

func (m *model) tell(words []string) string {
	s, deeds := "ok", m.e.Deeds()
	switch words[0] {
	case "run":
		return fmt.Sprint("ok ", m.steps(words[1:]))
	case "rounds":
		return fmt.Sprint("ok ", m.rounds(whole(words[1])))
	case "state":
		for _, x := range m.e.State() {
			s += " " + text.Print(x)
		}
	case "deeds":
		for _, d := range deeds {
			s += fmt.Sprintf(" %d.%d:%s:%d", d.Thread, d.No, ended(d.End), d.Mark)
		}
	case "out":
		return m.out(whole(words[1]), whole(words[2]))
	case "order":
		order, _ := history.Order(deeds)
		for _, i := range order {
			s += fmt.Sprintf(" %d.%d", deeds[i].Thread, deeds[i].No)
		}
	case "judge":
		a, _ := history.Explain(m.s, deeds)
		b, _ := history.Timely(deeds)
		c, _ := bounds.Late(m.s.Config, deeds)
		s = fmt.Sprintf("ok %d %d %d", a, b, c)
	}
	return s
}

func (m *model) out(thread, no int) string {
	for _, d := range m.e.Deeds() {
		if d.Thread == thread && d.No == no {
			s := "ok"
			for _, x := range d.Out {
				s += " " + text.Print(x)
			}
			return s
		}
	}
	return "error 100"
}

// steps counts one step after the other: each number is folded to a thread's.
func (m *model) steps(words []string) int {
	did := 0
	for _, word := range words {
		if is, _ := m.e.Step(whole(word) % m.s.Config.Threads); is {
			did++
		}
	}
	return did
}

func (m *model) rounds(times int) int {
	did := 0
	for range min(times, 1000) {
		for thread := range m.s.Config.Threads {
			if is, _ := m.e.Step(thread); is {
				did++
			}
		}
	}
	return did
}

func ended(e api.End) string {
	switch e.How {
	case api.Committed:
		return "committed"
	case api.Aborted:
		return fmt.Sprint("abort-", e.Code)
	case api.Failed:
		return fmt.Sprint("error-", int(e.E))
	}
	return "going"
}

// world is a desk and the model, which are told the same.
type world struct {
	t *testing.T
	d *lines.Desk
	m *model
}

// told is a world that was told some lines.
func told(t *testing.T, all ...string) *world {
	t.Helper()
	w := &world{t, lines.New(), newModel()}
	w.tell(all...)
	return w
}

func (w *world) tell(all ...string) {
	w.t.Helper()
	for _, line := range all {
		want := none
		if isLine(line) {
			want = w.m.line(line)
		}
		wantAnswer(w.t, w.d, line, want)
	}
}
