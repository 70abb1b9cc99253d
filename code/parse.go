package code

import (
	"strings"

	"beadle/api"
	"beadle/text"
)

const (
	firstInstr = 2                        // the line of a program's first instruction
	tooFar     = firstInstr + api.MaxCode // the line that a text may not come to
)

// fault is what whoever reads gives up with.
type fault struct {
	e    api.Errno
	line int
}

// Parse is the program whose text s is, or the error and the line that is wrong.
func Parse(s string) (p api.Program, e api.Errno, at int) {
	if len(s) > api.MaxText {
		return api.Program{}, api.ErrLong, 0
	}
	defer func() {
		if told := recover(); told != nil {
			f := told.(fault)
			p, e, at = api.Program{}, f.e, f.line
		}
	}()
	r := reader{rest: s}
	return r.program(), api.OK, 0
}

// reader goes through a text line by line.
type reader struct {
	rest string
	line int // the number of the line that was taken last
}

func (r *reader) giveUp(e api.Errno) {
	panic(fault{e, r.line})
}

// mustBe gives up at the line at hand, unless it is right.
func (r *reader) mustBe(right bool) {
	if !right {
		r.giveUp(api.ErrText)
	}
}

// next takes a line. A text that is at its end has none, and then that line is wrong.
func (r *reader) next() string {
	r.line++
	if r.line == tooFar {
		r.giveUp(api.ErrBadProgram)
	}
	line, rest, ended := strings.Cut(r.rest, "\n")
	r.mustBe(ended)
	r.rest = rest
	return line
}

// program asks for a first instruction whether there is one or not, since there must be.
func (r *reader) program() api.Program {
	p := api.Program{Tag: r.tag()}
	p.Code = append(p.Code, r.instr())
	for r.rest != "" {
		p.Code = append(p.Code, r.instr())
	}
	checkPlaces(p.Code)
	return p
}

func (r *reader) tag() int {
	switch r.next() {
	case readsLine:
		return api.Reads
	case updatesLine:
		return api.Updates
	}
	r.giveUp(api.ErrText)
	return 0
}

func (r *reader) instr() api.Instr {
	word, rest, more := strings.Cut(r.next(), " ")
	in, ok := named(word)
	r.mustBe(ok)
	switch shapes[in.Op].kind {
	case withX:
		in.X = r.number(rest)
	case withN, toPlace:
		in.N = r.whole(in.Op, rest)
	default:
		r.mustBe(!more)
	}
	return in
}

// number needs no blank to have been there: the empty text is no number.
func (r *reader) number(s string) float64 {
	x, e := text.Parse(s)
	r.mustBe(e == api.OK)
	return x
}

// whole needs no blank to have been there: the empty text is no number.
func (r *reader) whole(op int, s string) int {
	n, e := text.Whole(s)
	r.mustBe(e == api.OK && fits(op, n))
	return n
}

// checkPlaces gives up at the first place that is none: only behind all lines is it known how many there are.
func checkPlaces(code []api.Instr) {
	for i, in := range code {
		if outside(in, len(code)) {
			panic(fault{api.ErrBadProgram, firstInstr + i})
		}
	}
}
