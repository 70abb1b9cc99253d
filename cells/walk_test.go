package cells_test

import (
	"fmt"
	"slices"
	"testing"

	"beadle/api"
	"beadle/cells"
	"beadle/mem"
)

// rule is a source of numbers that are the same with each run.
type rule uint64

func (r *rule) below(n int) int {
	*r = *r*6364136223846793005 + 1442695040888963407
	return int(uint64(*r>>33) % uint64(n))
}

// pair is a read and a write of one cell, and the memory that they share. Where it forks, all three are cloned.
type pair struct {
	m          *mem.Mem
	r          *cells.Reading
	w          *cells.Writing
	read, done bool   // whether the read is over, and the write
	row        string // whose steps there were
}

func (p pair) fork() pair {
	p.m, p.r, p.w = p.m.Clone(), p.r.Clone(), p.w.Clone()
	return p
}

// step does a step of the one or the other.
func (p pair) step(t *testing.T, writes bool) pair {
	t.Helper()
	p.m.Open()
	var e api.Errno
	if writes {
		p.row += "w"
		p.done, e = p.w.Step(p.m)
	} else {
		p.row += "r"
		p.read, e = p.r.Step(p.m)
	}
	wantErrno(t, p.row, e, api.OK)
	return p
}

// eachOrder lets the two go on in each order that there can be, until both are over, and tells how many there were.
func eachOrder(t *testing.T, p pair, then func(pair)) int {
	t.Helper()
	if p.read && p.done {
		then(p)
		return 1
	}
	many := 0
	if !p.read {
		many += eachOrder(t, p.fork().step(t, false), then)
	}
	if !p.done {
		many += eachOrder(t, p.fork().step(t, true), then)
	}
	return many
}

// versions are a cell's version, a read's stamp and a write's version.
type versions struct{ had, stamp, gets uint64 }

// about are such threes with the edges at which one is another.
func about() []versions {
	var l []versions
	for _, had := range stamps {
		for _, stamp := range stamps {
			for _, gets := range stamps {
				l = append(l, versions{had, stamp, gets})
			}
		}
	}
	return l
}

// P11.6: no number in between: whoever reads below the write's version is told what the cell had, in whatever order the steps come.
func TestNoNumberInBetween(t *testing.T) {
	least, most := 5, 0
	for _, v := range about() {
		if v.had > v.stamp || v.gets <= v.stamp {
			continue
		}
		what := fmt.Sprint("had ", v.had, ", stamp ", v.stamp, ", gets ", v.gets)
		m := holding(t, v.had, bitsOf(5), bitsOf(3))
		many := eachOrder(t, pair{m: m, r: cells.Read(at(0), 0, v.stamp), w: cells.Write(at(0), 0, v.gets, 5, 7)}, func(p pair) {
			wantNumber(t, what+", "+p.row, p.r.Value(), bitsOf(5))
			least, most = min(least, p.r.Steps()), max(most, p.r.Steps())
			if p.m.Count() != p.r.Steps()+3 {
				t.Errorf("%s, %s: %d accesses, %d of the read", what, p.row, p.m.Count(), p.r.Steps())
			}
			wantPeek(t, what, p.m, at(0), 0, api.Triple{Version: v.gets, Now: bitsOf(7), Was: bitsOf(5)})
		})
		// Ahead of the version's store a read has three steps; begun behind it, two; across it, four.
		if many != 24 {
			t.Errorf("%s: %d orders", what, many)
		}
	}
	if least != 2 || most != api.ReadCost {
		t.Errorf("reads had %d to %d steps", least, most)
	}
}

// P11.6: whatever `now` is: bits of all kinds for both numbers.
func TestNoNumberInBetweenOfAnyBits(t *testing.T) {
	for _, had := range odd() {
		for _, gets := range odd() {
			m := holding(t, 0, had, 1)
			x := of(fixed(had))
			eachOrder(t, pair{m: m, r: cells.Read(at(0), 0, 0), w: cells.Write(at(0), 0, 1, x, of(gets))}, func(p pair) {
				wantNumber(t, fmt.Sprintf("%x, %x, %s", had, gets, p.row), p.r.Value(), fixed(had))
			})
		}
	}
}

// P11.4: at a stamp of the write's version or more, in every order: what the words told, step by step.
func TestBesideAWriteAtItsVersion(t *testing.T) {
	for _, v := range about() {
		if v.had >= v.gets || v.gets > v.stamp {
			continue
		}
		m := holding(t, v.had, bitsOf(5), bitsOf(3))
		eachOrder(t, pair{m: m, r: cells.Read(at(0), 0, v.stamp), w: cells.Write(at(0), 0, v.gets, 5, 7)}, func(p pair) {
			value, steps, torn := besideAWrite(p.row)
			wantRead(t, fmt.Sprint(v, ", ", p.row), p.r, value, steps, torn)
		})
	}
}

// besideAWrite reckons from whose steps there were what a read is told whose stamp is not below the write's version: it is torn, if the write's second step comes between its first and its third; else it has what Now was at its second.
func besideAWrite(row string) (uint64, int, bool) {
	reads, writes := 0, 0
	var behind []int // how many steps of the write there were ahead of each of the read
	for _, who := range row {
		if who == 'w' {
			writes++
			continue
		}
		reads++
		behind = append(behind, writes)
	}
	if behind[0] < 2 && behind[2] >= 2 {
		return bitsOf(5), 4, true
	}
	if behind[1] == 3 {
		return bitsOf(7), 3, false
	}
	return bitsOf(5), 3, false
}

// P11.6: a read begun behind the write, at its version or above, tells `now`; below it, what the cell had.
func TestReadBegunBehindAWrite(t *testing.T) {
	for _, v := range about() {
		for _, now := range odd() {
			m := holding(t, v.had, bitsOf(5), bitsOf(3))
			wantSteps(t, "the write", m, cells.Write(at(0), 0, v.gets, 5, of(now)), false, false, true)
			r := cells.Read(at(0), 0, v.stamp)
			what := fmt.Sprint(v)
			if v.gets > v.stamp {
				wantSteps(t, what, m, r, false, true)
				wantRead(t, what, r, bitsOf(5), 2, false)
				continue
			}
			wantSteps(t, what, m, r, false, false, true)
			wantRead(t, what, r, fixed(now), 3, false)
		}
	}
}

// world is a memory by the words of the chapter: its words, whether an access may be, how many there were.
type world struct {
	words []uint64
	open  bool
	count int
}

// spell is a read or a write by those words: where, and what its accesses told (of a write: nothing, as often).
type spell struct {
	base, cell int
	stamp      uint64
	stores     []uint64 // of a write: Was, Version, Now
	told       []uint64
}

// next is which word of the cell the next access has; -1: it is over.
func (s spell) next() int {
	if s.stores != nil {
		return []int{2, 0, 1, -1}[len(s.told)]
	}
	switch {
	case len(s.told) == 0:
		return 0
	case s.told[0] > s.stamp:
		return []int{2, -1}[len(s.told)-1]
	case len(s.told) < 3:
		return []int{1, 0}[len(s.told)-1]
	case s.told[2] == s.told[0]:
		return -1
	}
	return []int{2, -1}[len(s.told)-3]
}

// value is a read's number, steps how many accesses there were, torn whether it was torn.
func (s spell) value() uint64 {
	if s.next() >= 0 {
		return 0
	}
	return fixed([]uint64{0, 0, s.told[1], s.told[1], s.told[len(s.told)-1]}[len(s.told)])
}

func (s spell) torn() bool { return len(s.told) > 2 && s.told[0] != s.told[2] }

// has is whether a word is there.
func (w world) has(base, cell, word int) bool {
	return base >= 0 && base <= 4096 && base+3*cell+word < len(w.words)
}

// fault is why a step is refused, or OK.
func (s spell) fault(w world) api.Errno {
	switch {
	case s.next() < 0:
		return api.ErrState
	case s.cell < 0 || s.cell > 255:
		return api.ErrCell
	case !w.has(s.base, s.cell, s.next()):
		return api.ErrPlace
	case !w.open:
		return api.ErrSpent
	}
	return api.OK
}

// step is what a step makes of the two.
func (s spell) step(w world) (spell, world) {
	place, i := s.base+3*s.cell+s.next(), len(s.told)
	s.told = append(slices.Clip(s.told), w.words[place])
	if s.stores != nil {
		w.words = slices.Clone(w.words)
		w.words[place] = s.stores[i]
	}
	w.open = false
	w.count++
	return s, w
}

// walker is a walk's memory and what goes on over it, with the model of each.
type walker struct {
	m     *mem.Mem
	world world
	going []stepper
	are   []spell
}

// tally is what a walk has met.
type tally struct {
	ok, state, cell, place, spent int
	two, three, four, wrote       int
	cloned                        int
}

func (n *tally) met(s spell, e api.Errno) {
	switch e {
	case api.ErrState:
		n.state++
	case api.ErrCell:
		n.cell++
	case api.ErrPlace:
		n.place++
	case api.ErrSpent:
		n.spent++
	default:
		n.ok++
	}
	if e != api.OK || s.next() >= 0 {
		return
	}
	switch {
	case s.stores != nil:
		n.wrote++
	case len(s.told) == 2:
		n.two++
	case len(s.told) == 3:
		n.three++
	default:
		n.four++
	}
}

// P11.2 to P11.5, P11.7, R5: reads, writes and their clones, many at once over few cells, with steps that are refused.
func TestWalks(t *testing.T) {
	var n tally
	for seed := range 600 {
		walk(t, rule(seed), &n)
	}
	if n.ok < 5000 || n.state < 1000 || n.cell < 200 || n.place < 200 || n.spent < 1000 || n.two < 200 || n.three < 200 || n.four < 100 || n.wrote < 500 || n.cloned < 500 {
		t.Errorf("too little was met: %+v", n)
	}
}

func walk(t *testing.T, by rule, n *tally) {
	t.Helper()
	words := 1 + by.below(20)
	w := &walker{m: filled(t, words)}
	for i := range words {
		w.m.Poke(i, uint64(by.below(4)))
	}
	w.world = world{words: w.m.All()}
	for range 150 {
		if len(w.going) == 0 || by.below(4) == 0 {
			w.begin(&by)
		}
		if len(w.going) < 8 && by.below(12) == 0 {
			w.clone(by.below(len(w.going)))
			n.cloned++
		}
		if by.below(3) > 0 {
			w.m.Open()
			w.world.open = true
		}
		w.step(t, by.below(len(w.going)), n)
		w.look(t, &by)
	}
}

// begin adds a read or a write, mostly of cells that may be, in place of an old one if there are many.
func (w *walker) begin(by *rule) {
	s := spell{base: by.below(2), cell: by.below(3), stamp: uint64(by.below(4))}
	if by.below(25) == 0 {
		s.base = []int{-3, -1, 4096, 4097}[by.below(4)]
	}
	if by.below(25) == 0 {
		s.cell = []int{-1, 255, 256, -300}[by.below(4)]
	}
	var one stepper = cells.Read(at(s.base), s.cell, s.stamp)
	if by.below(2) == 0 {
		all := odd()
		was, now := all[by.below(len(all))], all[by.below(len(all))]
		s.stores = []uint64{fixed(was), s.stamp, fixed(now)}
		one = cells.Write(at(s.base), s.cell, s.stamp, of(was), of(now))
	}
	if len(w.going) < 6 {
		w.going, w.are = append(w.going, one), append(w.are, s)
		return
	}
	i := by.below(len(w.going))
	w.going[i], w.are[i] = one, s
}

func (w *walker) clone(i int) {
	var c stepper
	switch one := w.going[i].(type) {
	case *cells.Reading:
		c = one.Clone()
	case *cells.Writing:
		c = one.Clone()
	}
	w.going, w.are = append(w.going, c), append(w.are, w.are[i])
}

func (w *walker) step(t *testing.T, i int, n *tally) {
	t.Helper()
	want := w.are[i].fault(w.world)
	over := false
	if want == api.OK {
		w.are[i], w.world = w.are[i].step(w.world)
		over = w.are[i].next() < 0
	}
	got, e := w.going[i].Step(w.m)
	wantErrno(t, fmt.Sprintf("%+v", w.are[i]), e, want)
	if got != over {
		t.Errorf("%+v: %v, want %v", w.are[i], got, over)
	}
	n.met(w.are[i], e)
}

// look holds all that is told against the models.
func (w *walker) look(t *testing.T, by *rule) {
	t.Helper()
	wantMem(t, "a walk", w.m, w.world.words, w.world.open, w.world.count)
	for i, one := range w.going {
		if r, reads := one.(*cells.Reading); reads {
			wantRead(t, fmt.Sprintf("%+v", w.are[i]), r, w.are[i].value(), len(w.are[i].told), w.are[i].torn())
		}
	}
	base, cell := by.below(4)-1, by.below(5)
	if !w.world.has(base, cell, 2) {
		wantNoPeek(t, "a walk", w.m, at(base), cell, api.ErrPlace)
		return
	}
	three := w.world.words[base+3*cell:]
	wantPeek(t, "a walk", w.m, at(base), cell, api.Triple{Version: three[0], Now: three[1], Was: three[2]})
}
