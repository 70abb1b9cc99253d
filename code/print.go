package code

import (
	"strconv"
	"strings"

	"beadle/api"
	"beadle/text"
)

// The first lines of programs, by their tags.
const (
	readsLine   = "reads"
	updatesLine = "updates"
)

// Print is a program's text.
func Print(p api.Program) (string, api.Errno) {
	if e := Check(p); e != api.OK {
		return "", e
	}
	var b strings.Builder
	b.WriteString(tagLine(p.Tag))
	b.WriteByte('\n')
	for _, in := range p.Code {
		b.WriteString(instrLine(in))
		b.WriteByte('\n')
	}
	return b.String(), api.OK
}

func tagLine(tag int) string {
	if tag == api.Reads {
		return readsLine
	}
	return updatesLine
}

// instrLine is the line of an instruction that may be, without its end.
func instrLine(in api.Instr) string {
	word := shapes[in.Op].word
	switch shapes[in.Op].kind {
	case withX:
		return word + " " + text.Print(in.X)
	case withN, toPlace:
		return word + " " + strconv.Itoa(in.N)
	case oneNamed:
		return oneWords[in.N]
	case twoNamed:
		return twoWords[in.N]
	}
	return word
}
