package ticket_test

import (
	"fmt"
	"math"
	"slices"
	"testing"

	"beadle/api"
	"beadle/mem"
	"beadle/ticket"
)

const (
	greatest = math.MaxUint64
	mostTold = 2147483647
)

// edges are tickets, and words, at which a narrower whole number or one with a sign would tell otherwise.
var edges = []uint64{
	0, 1, 2, 7, 255, 256, mostTold - 1, mostTold, mostTold + 1, 1<<32 - 1, 1 << 32, 1<<32 + 1,
	1<<53 - 1, 1 << 53, 1<<53 + 1, 1<<63 - 1, 1 << 63, 1<<63 + 1, greatest - mostTold, greatest - 1, greatest,
}

// notWords are numbers that no word has in a memory of so many.
func notWords(words int) []int {
	return []int{
		-1, -2, -words, -4096, math.MinInt32, math.MinInt, math.MinInt + 1,
		words, words + 1, 4096, 4097, 1 << 31, 1 << 32, 1<<32 + 1, math.MaxInt - 1, math.MaxInt,
	}
}

// filled is a memory whose words are all unlike, none of them 0, and not open.
func filled(t *testing.T, words int) *mem.Mem {
	t.Helper()
	m, e := mem.New(words)
	if e != api.OK {
		t.Fatalf("New(%d): %d", words, e)
	}
	for i := range words {
		m.Poke(i, uint64(1000+i))
	}
	return m
}

// holding is a memory with these words.
func holding(t *testing.T, words ...uint64) *mem.Mem {
	t.Helper()
	m := filled(t, len(words))
	for i, word := range words {
		m.Poke(i, word)
	}
	return m
}

func isOpen(m *mem.Mem) bool {
	_, e := m.Clone().Load(0)
	return e == api.OK
}

// wantMem holds all of a memory against what it should be.
func wantMem(t *testing.T, what string, m *mem.Mem, words []uint64, open bool, count int) {
	t.Helper()
	if all := m.All(); !slices.Equal(all, words) {
		t.Errorf("%s: the words are %d, want %d", what, all, words)
	}
	if isOpen(m) != open || m.Count() != count {
		t.Errorf("%s: open %v, %d accesses, want %v, %d", what, isOpen(m), m.Count(), open, count)
	}
}

func wantDraw(t *testing.T, what string, m *mem.Mem, p api.Plan, want uint64, fault api.Errno) {
	t.Helper()
	if n, e := ticket.Draw(m, p); n != want || e != fault {
		t.Errorf("%s: Draw = %d, %d, want %d, %d", what, n, e, want, fault)
	}
}

func wantLook(t *testing.T, what string, m *mem.Mem, p api.Plan, n uint64, want bool, fault api.Errno) {
	t.Helper()
	if is, e := ticket.Look(m, p, n); is != want || e != fault {
		t.Errorf("%s: Look(%d) = %v, %d, want %v, %d", what, n, is, e, want, fault)
	}
}

func wantPass(t *testing.T, what string, m *mem.Mem, p api.Plan, n uint64, fault api.Errno) {
	t.Helper()
	if e := ticket.Pass(m, p, n); e != fault {
		t.Errorf("%s: Pass(%d) = %d, want %d", what, n, e, fault)
	}
}

func wantAhead(t *testing.T, what string, m *mem.Mem, p api.Plan, n uint64, want int, fault api.Errno) {
	t.Helper()
	if k, e := ticket.Ahead(m, p, n); k != want || e != fault {
		t.Errorf("%s: Ahead(%d) = %d, %d, want %d, %d", what, n, k, e, want, fault)
	}
}

// call is one of the three that have an access, with the word that it has it of.
type call struct {
	name string
	plan func(at int) api.Plan
	do   func(m *mem.Mem, p api.Plan, n uint64) (told uint64, e api.Errno)
	lays func(word, n uint64) uint64
}

func truth(is bool) uint64 {
	if is {
		return 1
	}
	return 0
}

// calls are these three: what they tell as a number, and what the word is behind them.
func calls() []call {
	next := func(at int) api.Plan { return api.Plan{Next: at, Serving: -1} }
	serving := func(at int) api.Plan { return api.Plan{Next: -1, Serving: at} }
	return []call{
		{"Draw", next, func(m *mem.Mem, p api.Plan, n uint64) (uint64, api.Errno) {
			return ticket.Draw(m, p)
		}, func(word, n uint64) uint64 { return word + 1 }},
		{"Look", serving, func(m *mem.Mem, p api.Plan, n uint64) (uint64, api.Errno) {
			is, e := ticket.Look(m, p, n)
			return truth(is), e
		}, func(word, n uint64) uint64 { return word }},
		{"Pass", serving, func(m *mem.Mem, p api.Plan, n uint64) (uint64, api.Errno) {
			return 0, ticket.Pass(m, p, n)
		}, func(word, n uint64) uint64 { return n + 1 }},
	}
}

// P12.1 to P12.3: at each word of memories of several sizes, the least and the greatest that there are among them: one access, and no other word is changed.
func TestAtEachWord(t *testing.T) {
	for _, words := range []int{1, 2, 3, 12, 4096} {
		for _, c := range calls() {
			for _, at := range slices.Compact([]int{0, words / 2, words - 1}) {
				m := filled(t, words)
				all := m.All()
				m.Open()
				_, e := c.do(m, c.plan(at), 7)
				what := fmt.Sprint(c.name, " of the word ", at, " of ", words)
				if e != api.OK {
					t.Errorf("%s: %d", what, e)
				}
				all[at] = c.lays(all[at], 7)
				wantMem(t, what, m, all, false, 1)
			}
		}
	}
}

// P12.1 to P12.3, R2: with no access open nothing has changed, and nothing is told beside the error.
func TestSpent(t *testing.T) {
	for _, c := range calls() {
		for at := range 3 {
			for _, n := range edges {
				m := holding(t, n, n, n)
				told, e := c.do(m, c.plan(at), n)
				if told != 0 || e != api.ErrSpent {
					t.Errorf("%s, not open: %d, %d", c.name, told, e)
				}
				wantMem(t, c.name+", not open", m, []uint64{n, n, n}, false, 0)
			}
		}
	}
}

// P12.1 to P12.3: a second one within a step, of whichever kind, is refused.
func TestSecondWithinAStep(t *testing.T) {
	for _, first := range calls() {
		for _, second := range calls() {
			m := holding(t, 5, 5)
			m.Open()
			if _, e := first.do(m, first.plan(0), 5); e != api.OK {
				t.Errorf("%s: %d", first.name, e)
			}
			all := m.All()
			what := first.name + ", then " + second.name
			if told, e := second.do(m, second.plan(1), 5); told != 0 || e != api.ErrSpent {
				t.Errorf("%s: %d, %d", what, told, e)
			}
			wantMem(t, what, m, all, false, 1)
		}
	}
}

// P12.1 to P12.3, R2: no such word: ErrPlace, open or not, and the memory stays as open as it was.
func TestNoSuchWord(t *testing.T) {
	for _, words := range []int{1, 2, 5, 4096} {
		for _, at := range notWords(words) {
			if at >= 0 && at < words {
				continue
			}
			for _, c := range calls() {
				for _, open := range []bool{false, true} {
					noSuchWord(t, c, words, at, open)
				}
			}
		}
	}
}

func noSuchWord(t *testing.T, c call, words, at int, open bool) {
	t.Helper()
	m := filled(t, words)
	all := m.All()
	if open {
		m.Open()
	}
	what := fmt.Sprint(c.name, " of the word ", at, " of ", words, ", open ", open)
	for _, n := range []uint64{0, 1000, greatest} {
		if told, e := c.do(m, c.plan(at), n); told != 0 || e != api.ErrPlace {
			t.Errorf("%s: %d, %d", what, told, e)
		}
		wantMem(t, what, m, all, open, 0)
	}
}

// P12.4, R2: no such word, open or not.
func TestAheadOfNoSuchWord(t *testing.T) {
	for _, words := range []int{1, 2, 5, 4096} {
		for _, at := range notWords(words) {
			if at >= 0 && at < words {
				continue
			}
			m := filled(t, words)
			all := m.All()
			for _, open := range []bool{false, true} {
				if open {
					m.Open()
				}
				for _, n := range edges {
					wantAhead(t, fmt.Sprint("the word ", at, " of ", words), m, api.Plan{Serving: at}, n, 0, api.ErrPlace)
				}
				wantMem(t, "Ahead", m, all, open, 0)
			}
		}
	}
}

// P12.1: the word is one more, modulo 2^64, and what it was is the ticket.
func TestDrawOfAnyWord(t *testing.T) {
	for _, was := range edges {
		m := holding(t, 40, was, 41)
		m.Open()
		wantDraw(t, fmt.Sprint("behind ", was), m, api.Plan{Next: 1, Serving: 0}, was, api.OK)
		wantMem(t, fmt.Sprint("behind ", was), m, []uint64{40, was + 1, 41}, false, 1)
	}
}

// P12.1: past the greatest ticket comes 0.
func TestDrawPastTheGreatest(t *testing.T) {
	m := holding(t, greatest-1)
	for i, want := range []uint64{greatest - 1, greatest, 0, 1} {
		m.Open()
		wantDraw(t, "past the greatest", m, api.Plan{}, want, api.OK)
		wantMem(t, "past the greatest", m, []uint64{want + 1}, false, i+1)
	}
}

// P12.1: many draws, no ticket twice.
func TestDrawAgainAndAgain(t *testing.T) {
	m := holding(t, 9, 0)
	for i := range 1000 {
		m.Open()
		wantDraw(t, "again", m, api.Plan{Next: 1}, uint64(i), api.OK)
		wantDraw(t, "a second one", m, api.Plan{Next: 1}, 0, api.ErrSpent)
	}
	wantMem(t, "at last", m, []uint64{9, 1000}, false, 1000)
}

// P12.2: true just where the word is the ticket: below it, at it, above it, and unlike it in one bit.
func TestLookOfAnyWord(t *testing.T) {
	for _, word := range edges {
		tickets := slices.Clone(edges)
		for bit := range 64 {
			tickets = append(tickets, word^1<<bit)
		}
		for _, n := range append(tickets, word-1, word, word+1) {
			m := holding(t, 40, 41, word)
			m.Open()
			wantLook(t, fmt.Sprint("the word is ", word), m, api.Plan{Next: 1, Serving: 2}, n, n == word, api.OK)
			wantMem(t, fmt.Sprint("the word is ", word), m, []uint64{40, 41, word}, false, 1)
		}
	}
}

// P12.3: the word is the ticket and one, whatever it was: whose turn it is isn't asked.
func TestPassOfAnyTicket(t *testing.T) {
	for _, word := range edges {
		for _, n := range edges {
			m := holding(t, word, 41, 42)
			m.Open()
			what := fmt.Sprint("the word is ", word)
			wantPass(t, what, m, api.Plan{Next: 1, Serving: 0}, n, api.OK)
			wantMem(t, what, m, []uint64{n + 1, 41, 42}, false, 1)
		}
	}
}

// P12.3: past the greatest ticket 0 is served.
func TestPassOfTheGreatest(t *testing.T) {
	for _, word := range []uint64{0, 5, greatest} {
		m := holding(t, 40, word)
		m.Open()
		wantPass(t, "the greatest", m, api.Plan{Serving: 1}, greatest, api.OK)
		wantMem(t, "the greatest", m, []uint64{40, 0}, false, 1)
	}
}

// gaps are by how much a word is below a ticket, and what is told of it.
var gaps = []struct {
	gap  uint64
	want int
}{
	{0, 0}, {1, 1}, {2, 2}, {7, 7}, {255, 255}, {256, 256}, {65536, 65536}, {1 << 30, 1 << 30},
	{2147483645, 2147483645}, {2147483646, 2147483646}, {2147483647, 2147483647},
	{2147483648, mostTold}, {2147483649, mostTold}, {1<<32 - 1, mostTold}, {1 << 32, mostTold}, {1<<32 + 1, mostTold}, {1<<32 + 7, mostTold},
	{1<<63 - 1, mostTold}, {1 << 63, mostTold}, {1<<63 + 1, mostTold}, {greatest - 1, mostTold}, {greatest, mostTold},
}

// P12.4: how much the word is below the ticket, at most 2147483647, from many words on; without an access, open or not.
func TestAheadByHowMuch(t *testing.T) {
	for _, g := range gaps {
		for _, word := range edges {
			if word > greatest-g.gap {
				continue
			}
			m := holding(t, 40, 41, word)
			p := api.Plan{Next: 1, Serving: 2}
			what := fmt.Sprint("the word is ", word)
			wantAhead(t, what, m, p, word+g.gap, g.want, api.OK)
			wantMem(t, what, m, []uint64{40, 41, word}, false, 0)
			m.Open()
			wantAhead(t, what, m, p, word+g.gap, g.want, api.OK)
			wantMem(t, what, m, []uint64{40, 41, word}, true, 0)
		}
	}
}

// P12.4: nobody is ahead of a ticket that the word has come to, or gone past.
func TestAheadOfATicketThatWasServed(t *testing.T) {
	for _, word := range edges {
		m := holding(t, word)
		for _, n := range append([]uint64{word, word / 2}, edges...) {
			if n <= word {
				wantAhead(t, fmt.Sprint("the word is ", word), m, api.Plan{}, n, 0, api.OK)
			}
		}
	}
}

// P12.1 to P12.4: of each ticket and each word of the edges, what all four tell.
func TestEdgesByEdges(t *testing.T) {
	for _, word := range edges {
		for _, n := range edges {
			m := holding(t, word, 40)
			what := fmt.Sprint("the word is ", word)
			many := 0
			if word < n {
				many = int(min(n-word, mostTold))
			}
			wantAhead(t, what, m, api.Plan{}, n, many, api.OK)
			m.Open()
			wantLook(t, what, m, api.Plan{}, n, word == n, api.OK)
			m.Open()
			wantPass(t, what, m, api.Plan{}, n, api.OK)
			m.Open()
			wantLook(t, what, m, api.Plan{}, n+1, true, api.OK)
			wantAhead(t, what, m, api.Plan{}, n+1, 0, api.OK)
			wantMem(t, what, m, []uint64{n + 1, 40}, false, 3)
		}
	}
}

// P12.1 to P12.4: Next and Serving may be one word.
func TestNextAndServingTheSameWord(t *testing.T) {
	p := api.Plan{Next: 1, Serving: 1}
	m := holding(t, 40, 5, 41)
	m.Open()
	wantDraw(t, "one word", m, p, 5, api.OK)
	wantMem(t, "one word", m, []uint64{40, 6, 41}, false, 1)
	wantAhead(t, "one word", m, p, 5, 0, api.OK)
	wantAhead(t, "one word", m, p, 8, 2, api.OK)
	m.Open()
	wantLook(t, "one word", m, p, 5, false, api.OK)
	m.Open()
	wantLook(t, "one word", m, p, 6, true, api.OK)
	m.Open()
	wantPass(t, "one word", m, p, 9, api.OK)
	m.Open()
	wantDraw(t, "one word", m, p, 10, api.OK)
	wantMem(t, "one word", m, []uint64{40, 11, 41}, false, 5)
}

// P12.1 to P12.4: no other number of the plan is looked at, whatever it is.
func TestNoOtherNumberOfThePlan(t *testing.T) {
	for _, x := range append(notWords(2), 0, 1) {
		next := api.Plan{Next: 0, Serving: x, Stamp: x, Census: x, Cells: x, Words: x}
		m := holding(t, 5, 6)
		m.Open()
		wantDraw(t, fmt.Sprint(next), m, next, 5, api.OK)
		wantMem(t, fmt.Sprint(next), m, []uint64{6, 6}, false, 1)

		p := api.Plan{Next: x, Serving: 1, Stamp: x, Census: x, Cells: x, Words: x}
		wantAhead(t, fmt.Sprint(p), m, p, 9, 3, api.OK)
		m.Open()
		wantLook(t, fmt.Sprint(p), m, p, 6, true, api.OK)
		m.Open()
		wantPass(t, fmt.Sprint(p), m, p, 6, api.OK)
		wantMem(t, fmt.Sprint(p), m, []uint64{6, 7}, false, 3)
	}
}

// P12.1 to P12.4, R5: what is asked of a clone, the memory does not see, nor the clone what is asked of the memory.
func TestClones(t *testing.T) {
	p := api.Plan{Next: 0, Serving: 1}
	m := holding(t, 0, 0)
	m.Open()
	c := m.Clone()
	wantDraw(t, "the memory", m, p, 0, api.OK)
	wantDraw(t, "the clone", c, p, 0, api.OK)
	c.Open()
	wantPass(t, "the clone", c, p, 0, api.OK)
	wantMem(t, "the memory", m, []uint64{1, 0}, false, 1)
	wantMem(t, "the clone", c, []uint64{1, 1}, false, 2)
	wantAhead(t, "the memory", m, p, 1, 1, api.OK)
	wantAhead(t, "the clone", c, p, 1, 0, api.OK)
}

// P12.1 to P12.4: the examples of the chapter.
func TestExamples(t *testing.T) {
	p := api.Plan{Next: 0, Serving: 1}
	m := holding(t, 0, 0)
	for want := range uint64(2) {
		m.Open()
		wantDraw(t, "first", m, p, want, api.OK)
	}
	wantAhead(t, "first", m, p, 0, 0, api.OK)
	wantAhead(t, "first", m, p, 1, 1, api.OK)
	m.Open()
	wantLook(t, "first", m, p, 0, true, api.OK)
	m.Open()
	wantLook(t, "first", m, p, 1, false, api.OK)

	m.Open()
	wantPass(t, "second", m, p, 0, api.OK)
	m.Open()
	wantLook(t, "second", m, p, 1, true, api.OK)
	wantAhead(t, "second", m, p, 1, 0, api.OK)
	wantAhead(t, "second", m, p, 0, 0, api.OK)

	wantDraw(t, "third, without Open", m, p, 0, api.ErrSpent)
	m.Open()
	wantDraw(t, "third", m, api.Plan{Next: 2}, 0, api.ErrPlace)

	m.Poke(1, greatest)
	wantPass(t, "fourth", m, p, greatest, api.OK)
	m.Open()
	wantLook(t, "fourth", m, p, 0, true, api.OK)
}
