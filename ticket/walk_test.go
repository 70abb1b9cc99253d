package ticket_test

import (
	"fmt"
	"slices"
	"testing"

	"beadle/api"
	"beadle/mem"
	"beadle/ticket"
)

// rule is a source of numbers that are the same with each run.
type rule uint64

func (r *rule) below(n int) int {
	*r = *r*6364136223846793005 + 1442695040888963407
	return int(uint64(*r>>33) % uint64(n))
}

// What a thread has come to.
const (
	outside = iota // it has no ticket
	waiting        // it has one
	served         // it has been told true
)

// seat is a thread: what it has come to, its ticket, and how many it is yet to draw.
type seat struct {
	is     int
	ticket uint64
	left   int
}

// crowd is threads and the memory that they share; row is who has drawn and not passed on, in the order in which they drew.
type crowd struct {
	m     *mem.Mem
	p     api.Plan
	seats []seat
	row   []int
}

// gathered is a crowd in which nobody has drawn, over a memory of zeros.
func gathered(t *testing.T, words int, p api.Plan, threads, turns int) crowd {
	t.Helper()
	m, e := mem.New(words)
	if e != api.OK {
		t.Fatalf("New(%d): %d", words, e)
	}
	return crowd{m, p, slices.Repeat([]seat{{left: turns}}, threads), nil}
}

func (c crowd) fork() crowd {
	return crowd{c.m.Clone(), c.p, slices.Clone(c.seats), slices.Clone(c.row)}
}

// key tells crowds apart of which the one can go on otherwise than the other.
func (c crowd) key() string { return fmt.Sprint(c.m.All(), c.seats, c.row) }

func (c crowd) over(who int) bool {
	return c.seats[who].is == outside && c.seats[who].left == 0
}

// step is a thread's next step, with what P12.5 says of it.
func (c *crowd) step(t *testing.T, who int) {
	t.Helper()
	s, count := &c.seats[who], c.m.Count()
	c.m.Open()
	switch s.is {
	case outside:
		c.draw(t, who)
	case waiting:
		c.look(t, who)
	case served:
		wantPass(t, "in a crowd", c.m, c.p, s.ticket, api.OK)
		s.is = outside
		c.row = slices.DeleteFunc(c.row, func(one int) bool { return one == who })
	}
	if c.m.Count() != count+1 || isOpen(c.m) {
		t.Errorf("%s: a step of %d has %d accesses", c.key(), who, c.m.Count()-count)
	}
}

// draw takes the ticket as it comes: that it is the right one, the others' looks tell.
func (c *crowd) draw(t *testing.T, who int) {
	t.Helper()
	n, e := ticket.Draw(c.m, c.p)
	if e != api.OK {
		t.Errorf("%s: Draw of %d: %d", c.key(), who, e)
	}
	c.seats[who] = seat{waiting, n, c.seats[who].left - 1}
	c.row = append(c.row, who)
}

// look: the first of the row is told true, and nobody else.
func (c *crowd) look(t *testing.T, who int) {
	t.Helper()
	place := slices.Index(c.row, who)
	is, e := ticket.Look(c.m, c.p, c.seats[who].ticket)
	if is != (place == 0) || e != api.OK {
		t.Errorf("%s: Look of %d, with %d ahead: %v, %d", c.key(), who, place, is, e)
	}
	if is {
		c.seats[who].is = served
		return
	}
	if k, e := ticket.Ahead(c.m, c.p, c.seats[who].ticket); k != place || k < 1 || e != api.OK {
		t.Errorf("%s: Ahead of %d: %d, %d, want %d", c.key(), who, k, e, place)
	}
}

// wantTurns: at most one has been told true and has not passed on, and of each that waits Ahead is its place in the row.
func (c crowd) wantTurns(t *testing.T) {
	t.Helper()
	in := 0
	for who, s := range c.seats {
		if s.is == served {
			in++
		}
		if s.is != outside {
			wantAhead(t, "in a crowd", c.m, c.p, s.ticket, slices.Index(c.row, who), api.OK)
		}
	}
	if in > 1 {
		t.Errorf("%s: %d are served", c.key(), in)
	}
}

// eachOrder goes on from a crowd in each order of steps that there can be, once from each state that it comes to, and tells how many there are.
func eachOrder(t *testing.T, c crowd, seen map[string]int) int {
	t.Helper()
	if t.Failed() {
		return 0
	}
	if _, been := seen[c.key()]; been {
		return 0
	}
	seen[c.key()] = len(seen)
	c.wantTurns(t)
	many := 1
	for who := range c.seats {
		if !c.over(who) {
			next := c.fork()
			next.step(t, who)
			many += eachOrder(t, next, seen)
		}
	}
	return many
}

// P12.5: of few threads, every order of steps.
func TestEachOrderOfSteps(t *testing.T) {
	for _, c := range []struct{ threads, turns, least int }{{1, 4, 12}, {2, 3, 100}, {3, 2, 500}, {4, 1, 300}, {4, 2, 5000}} {
		many := eachOrder(t, gathered(t, 2, api.Plan{Next: 0, Serving: 1}, c.threads, c.turns), map[string]int{})
		if many < c.least {
			t.Errorf("%+v: just %d states", c, many)
		}
	}
}

// tally is what walks have met.
type tally struct {
	drew, yes, no, passed, refused int
	longest                        int
}

// met counts a step of a thread by what it had come to before and has come to now.
func (n *tally) met(was, is, row int) {
	switch {
	case was == outside:
		n.drew++
	case was == served:
		n.passed++
	case is == served:
		n.yes++
	default:
		n.no++
	}
	n.longest = max(n.longest, row)
}

// P12.5: many threads in a memory of an engine, in long rows of steps by several manners of choosing, with steps between them that are refused.
func TestLongOrdersOfSteps(t *testing.T) {
	var n tally
	p, e := mem.Place(api.Config{Cells: 2, Threads: 8, Fuel: 9, Writes: 1})
	if e != api.OK {
		t.Fatalf("Place: %d", e)
	}
	for seed := range 200 {
		by := rule(seed)
		c := gathered(t, p.Words, p, 2+by.below(7), 5+by.below(20))
		rows(t, &c, &by, &n)
		want := make([]uint64, p.Words)
		want[p.Next], want[p.Serving] = c.m.All()[p.Next], c.m.All()[p.Next]
		wantMem(t, "at the end", c.m, want, false, c.m.Count())
	}
	if n.drew < 5000 || n.drew != n.yes || n.drew != n.passed || n.no < 5000 || n.refused < 1000 || n.longest != 8 {
		t.Errorf("too little was met: %+v", n)
	}
}

// rows steps a crowd until all are over.
func rows(t *testing.T, c *crowd, by *rule, n *tally) {
	t.Helper()
	keen := by.below(3)
	for !t.Failed() {
		who := chosen(c, by, keen)
		if who < 0 {
			return
		}
		if by.below(8) == 0 {
			refused(t, c, who)
			n.refused++
		}
		was := c.seats[who].is
		c.step(t, who)
		n.met(was, c.seats[who].is, len(c.row))
		c.wantTurns(t)
	}
}

// chosen is whose step comes next: anybody's; of who has no ticket first; or of the last of the row, as long as it is told false.
func chosen(c *crowd, by *rule, keen int) int {
	var going, drawing []int
	for who := range c.seats {
		if c.over(who) {
			continue
		}
		going = append(going, who)
		if c.seats[who].is == outside {
			drawing = append(drawing, who)
		}
	}
	switch {
	case len(going) == 0:
		return -1
	case keen == 1 && len(drawing) > 0:
		return drawing[by.below(len(drawing))]
	case keen == 2 && len(c.row) > 0 && by.below(2) == 0:
		return c.row[len(c.row)-1]
	}
	return going[by.below(len(going))]
}

// refused asks for all that a step can ask without a step's beginning, and behind its access: the turns go on as if nobody had.
func refused(t *testing.T, c *crowd, who int) {
	t.Helper()
	n := c.seats[who].ticket
	words, count := c.m.All(), c.m.Count()
	wantDraw(t, "refused", c.m, c.p, 0, api.ErrSpent)
	wantLook(t, "refused", c.m, c.p, n, false, api.ErrSpent)
	wantPass(t, "refused", c.m, c.p, n, api.ErrSpent)
	wantMem(t, "refused", c.m, words, false, count)
}

// world is a memory by the words of the chapter.
type world struct {
	words []uint64
	open  bool
	count int
}

// access is why an access of a word is refused, or OK.
func (w *world) access(at int) api.Errno {
	switch {
	case at < 0 || at >= len(w.words):
		return api.ErrPlace
	case !w.open:
		return api.ErrSpent
	}
	w.open = false
	w.count++
	return api.OK
}

// P12.1 to P12.4: long rows of calls at plans and tickets of all kinds, against the words of the chapter.
func TestWalks(t *testing.T) {
	met := map[string]int{}
	for seed := range 400 {
		walk(t, rule(seed), met)
	}
	for _, name := range []string{"Draw", "Look", "Pass", "Ahead"} {
		for _, e := range []api.Errno{api.OK, api.ErrPlace, api.ErrSpent} {
			if what := fmt.Sprint(name, " ", e); met[what] < 500 && what != fmt.Sprint("Ahead ", api.ErrSpent) {
				t.Errorf("%s was met %d times", what, met[what])
			}
		}
	}
	if met["told true"] < 500 {
		t.Errorf("too little was met: %v", met)
	}
}

func walk(t *testing.T, by rule, met map[string]int) {
	t.Helper()
	m := filled(t, 1+by.below(4))
	w := world{words: m.All()}
	for range 200 {
		if by.below(3) > 0 {
			m.Open()
			w.open = true
		}
		p := api.Plan{Next: by.below(len(w.words)), Serving: by.below(len(w.words))}
		if by.below(6) == 0 {
			p.Next, p.Serving = by.below(12)-6, by.below(12)-6
		}
		w.call(t, m, p, w.ticket(&by), &by, met)
		wantMem(t, "a walk", m, w.words, w.open, w.count)
	}
}

// ticket is one of the edges, or stands beside one of the words.
func (w *world) ticket(by *rule) uint64 {
	if by.below(4) == 0 {
		return edges[by.below(len(edges))]
	}
	return w.words[by.below(len(w.words))] + uint64(by.below(3)) - 1
}

func (w *world) call(t *testing.T, m *mem.Mem, p api.Plan, n uint64, by *rule, met map[string]int) {
	t.Helper()
	what := fmt.Sprintf("%+v, %+v", *w, p)
	switch by.below(4) {
	case 0:
		e, was := w.access(p.Next), uint64(0)
		if e == api.OK {
			was = w.words[p.Next]
			w.words[p.Next]++
		}
		wantDraw(t, what, m, p, was, e)
		met[fmt.Sprint("Draw ", e)]++
	case 1:
		e := w.access(p.Serving)
		is := e == api.OK && w.words[p.Serving] == n
		wantLook(t, what, m, p, n, is, e)
		met[fmt.Sprint("Look ", e)]++
		met["told true"] += int(truth(is))
	case 2:
		e := w.access(p.Serving)
		if e == api.OK {
			w.words[p.Serving] = n + 1
		}
		wantPass(t, what, m, p, n, e)
		met[fmt.Sprint("Pass ", e)]++
	default:
		e, many := api.ErrPlace, uint64(0)
		if p.Serving >= 0 && p.Serving < len(w.words) {
			e, many = api.OK, n-min(n, w.words[p.Serving])
		}
		wantAhead(t, what, m, p, n, int(min(many, mostTold)), e)
		met[fmt.Sprint("Ahead ", e)]++
	}
}
