package asm_test

import (
	"fmt"
	"math"
	"slices"
	"testing"

	"beadle/api"
	"beadle/asm"
	"beadle/code"
)

// rule is a row of numbers that looks as if thrown.
type rule uint64

func (r *rule) below(n int) int {
	*r = *r*6364136223846793005 + 1442695040888963407
	return int(uint64(*r>>33) % uint64(n))
}

// What a call of a builder is, that changes it.
const (
	add = iota
	pushes
	to
	label
	mark
)

// call is one of these, with its arguments.
type call struct {
	kind  int
	op, n int // n is a label too
	x     float64
}

func (c call) do(b *asm.Builder) {
	switch c.kind {
	case add:
		b.Add(c.op, c.n)
	case pushes:
		b.Push(c.x)
	case to:
		b.To(c.op, c.n)
	case label:
		b.Label()
	case mark:
		b.Mark(c.n)
	}
}

// adds tells whether there is one more instruction behind a call.
func (c call) adds() bool { return c.kind <= to }

// labelsOf is how many labels there are behind some calls.
func labelsOf(calls []call) int {
	many := 0
	for _, c := range calls {
		if c.kind == label {
			many++
		}
	}
	return min(many, 256)
}

// placesOf is where each label was marked behind some calls, as often as it was; false: something was that is no label.
func placesOf(calls []call) ([][]int, bool) {
	places := make([][]int, labelsOf(calls))
	here := 0
	for _, c := range calls {
		if c.kind == mark {
			if c.n < 0 || c.n >= len(places) {
				return nil, false
			}
			places[c.n] = append(places[c.n], here)
		}
		if c.adds() {
			here++
		}
	}
	return places, true
}

// programOf is what Program tells behind some calls, in the chapter's words: all of it is reckoned from the calls.
func programOf(tag int, calls []call) ([]instr, api.Errno) {
	places, ok := placesOf(calls)
	if !ok || slices.ContainsFunc(places, func(l []int) bool { return len(l) > 1 }) {
		return nil, api.ErrLabel
	}
	p := api.Program{Tag: tag}
	for _, c := range calls {
		switch c.kind {
		case add:
			p.Code = append(p.Code, api.Instr{Op: c.op, N: c.n})
		case pushes:
			p.Code = append(p.Code, api.Instr{Op: api.OpPush, X: of(right(c.x))})
		case to:
			if c.n < 0 || c.n >= len(places) || len(places[c.n]) == 0 {
				return nil, api.ErrLabel
			}
			p.Code = append(p.Code, api.Instr{Op: c.op, N: places[c.n][0]})
		}
	}
	if e := code.Check(p); e != api.OK {
		return nil, e
	}
	return instrsOf(p), api.OK
}

// right are the bits of a number once it is fixed.
func right(x float64) uint64 {
	if math.IsNaN(x) {
		return oneNaN
	}
	return math.Float64bits(x)
}

// wantBehind holds all that can be asked of a builder against what it should tell behind some calls.
func wantBehind(t *testing.T, b *asm.Builder, tag int, calls []call) {
	t.Helper()
	many := 0
	for _, c := range calls {
		if c.adds() {
			many++
		}
	}
	if n := b.Len(); n != many {
		t.Fatalf("behind %v: Len: %d, want %d", calls, n, many)
	}
	want, wantE := programOf(tag, calls)
	p, e := b.Program()
	if wantE == api.OK && p.Tag != tag || wantE != api.OK && p.Tag != 0 || e != wantE || !slices.Equal(instrsOf(p), want) {
		t.Fatalf("behind %v: Program: %d, %x, %d, want %x, %d", calls, p.Tag, instrsOf(p), e, want, wantE)
	}
}

// P19.1 to P19.3: every short row of calls, asked behind each of them, and asked but behind the last.
func TestEveryShortRow(t *testing.T) {
	kinds := []call{
		{kind: add, op: api.OpHalt}, {kind: add, op: api.OpJump, n: 1}, {kind: pushes, x: of(0xfff8000000000001)},
		{kind: to, op: api.OpIf}, {kind: to, op: api.OpCall, n: 1}, {kind: label}, {kind: mark}, {kind: mark, n: 1},
	}
	var row []call
	var try func(deep int)
	try = func(deep int) {
		often, once := asm.New(api.Reads), asm.New(api.Updates)
		for i, c := range row {
			c.do(often)
			c.do(once)
			if i < len(row)-1 {
				often.Program()
				often.Len()
			}
		}
		wantBehind(t, often, api.Reads, row)
		wantBehind(t, once, api.Updates, row)
		if deep == 0 {
			return
		}
		for _, c := range kinds {
			row = append(row, c)
			try(deep - 1)
			row = row[:len(row)-1]
		}
	}
	try(6)
}

// callBy is any call; mostly one that leaves a program right.
func callBy(by *rule, calls []call) call {
	labels := labelsOf(calls)
	near := by.below(labels+1) - by.below(40)/39
	switch k := by.below(100); {
	case k < 20:
		return call{kind: add, op: 1 + by.below(20), n: by.below(10) * by.below(2)}
	case k < 35:
		return call{kind: pushes, x: of(slices.Concat(plain, nans)[by.below(len(plain)+len(nans))])}
	case k < 60:
		return call{kind: to, op: []int{api.OpJump, api.OpIf, api.OpUnless, api.OpCall}[by.below(4)], n: near}
	case k < 75:
		return call{kind: label}
	case k < 97:
		return call{kind: mark, n: near}
	case k < 98:
		return call{kind: add, op: odd[by.below(len(odd))], n: odd[by.below(len(odd))]}
	case k < 99:
		return call{kind: to, op: odd[by.below(len(odd))], n: odd[by.below(len(odd))]}
	}
	return call{kind: mark, n: odd[by.below(len(odd))]}
}

// P19.1 to P19.3: long rows of any calls, with what Label tells.
func TestAnyCalls(t *testing.T) {
	by := rule(19)
	for range 3000 {
		tag := 1 + by.below(2)
		b := asm.New(tag)
		var calls []call
		for range 1 + by.below(40) {
			c := callBy(&by, calls)
			if c.kind == label {
				wantLabel(t, fmt.Sprint("behind ", calls), b, labelsOf(calls))
			} else {
				c.do(b)
			}
			calls = append(calls, c)
			if by.below(3) == 0 {
				wantBehind(t, b, tag, calls)
			}
		}
		wantBehind(t, b, tag, calls)
	}
}

// rightBy is a row of calls that leaves a program with so many instructions right, or ErrBadProgram, with the labels' places thrown: some at one place, some nowhere. Half of the labels are given but behind all.
func rightBy(by *rule, many, labels int) []call {
	marks := make([][]int, many+1)
	var marked []int
	for l := range labels {
		if by.below(8) > 0 {
			place := by.below(many + by.below(20)/19)
			marks[place] = append(marks[place], l)
			marked = append(marked, l)
		}
	}
	early := labels / 2 * by.below(2)
	calls := slices.Repeat([]call{{kind: label}}, early)
	for place := range many + 1 {
		for _, l := range marks[place] {
			calls = append(calls, call{kind: mark, n: l})
		}
		switch {
		case place == many:
		case len(marked) > 0 && by.below(2) == 0:
			calls = append(calls, call{kind: to, op: []int{api.OpJump, api.OpIf, api.OpUnless, api.OpCall}[by.below(4)], n: marked[by.below(len(marked))]})
		case by.below(2) == 0:
			calls = append(calls, call{kind: pushes, x: float64(by.below(100)) / 4})
		default:
			calls = append(calls, call{kind: add, op: api.OpAbort, n: by.below(100)})
		}
	}
	return append(calls, slices.Repeat([]call{{kind: label}}, labels-early)...)
}

// numbered are the calls by which the same program comes about without labels: each To is an Add of the place.
func numbered(calls []call) []call {
	places, _ := placesOf(calls)
	var all []call
	for _, c := range calls {
		switch c.kind {
		case add, pushes:
			all = append(all, c)
		case to:
			all = append(all, call{kind: add, op: c.op, n: places[c.n][0]})
		}
	}
	return all
}

// wantSameByNumbers holds what comes about by labels against what does by numbers, and tells whether it is a program.
func wantSameByNumbers(t *testing.T, what string, tag int, calls []call) bool {
	t.Helper()
	byLabels, byNumbers := asm.New(tag), asm.New(tag)
	for _, c := range calls {
		c.do(byLabels)
	}
	for _, c := range numbered(calls) {
		c.do(byNumbers)
	}
	p, e := byLabels.Program()
	q, f := byNumbers.Program()
	if e != f || p.Tag != q.Tag || !slices.Equal(instrsOf(p), instrsOf(q)) || byLabels.Len() != byNumbers.Len() {
		t.Fatalf("%s: by labels %x, %d, by numbers %x, %d", what, instrsOf(p), e, instrsOf(q), f)
	}
	if e == api.OK && (!code.Same(p, q) || p.Tag != tag) {
		t.Fatalf("%s: code.Same tells the programs apart: %x, %x", what, instrsOf(p), instrsOf(q))
	}
	return e == api.OK
}

// P19.4: programs of any size by labels and by numbers are the same.
func TestSameByNumbers(t *testing.T) {
	by := rule(4)
	right := 0
	for i := range 4000 {
		many, labels := 1+by.below(30), by.below(20)
		switch i % 200 {
		case 0:
			many, labels = 1024, 256
		case 1:
			many, labels = 1025, 256
		case 2:
			many, labels = 1+by.below(1024), 1+by.below(256)
		}
		calls := rightBy(&by, many, labels)
		what := fmt.Sprintf("%d: %d instructions, %d labels", i, many, labels)
		if wantSameByNumbers(t, what, 1+i%2, calls) {
			right++
		}
	}
	if right < 2000 {
		t.Errorf("%d programs of 4000 may be: too few to tell", right)
	}
}

// P19.4: each place of the longest program by a label, each with a To, 256 at a time.
func TestEachPlaceOfTheLongest(t *testing.T) {
	for from := 0; from < 1024; from += 256 {
		var calls []call
		for place := range 1024 {
			l := place - from
			if l >= 0 && l < 256 {
				calls = append(calls, call{kind: label}, call{kind: mark, n: l})
			}
			calls = append(calls, call{kind: to, op: api.OpJump, n: (place * 37) % 256})
		}
		if !wantSameByNumbers(t, fmt.Sprint("from ", from), api.Updates, calls) {
			t.Errorf("from %d: there is no program", from)
		}
	}
}
