package code_test

import (
	"fmt"
	"math"
	"slices"
	"strings"
	"testing"

	"beadle/api"
	"beadle/code"
	"beadle/text"
)

// believed are the lines that may be an instruction's, but push, each with it: all are written out, so that no line is taken apart.
func believed() map[string]api.Instr {
	lines := map[string]api.Instr{}
	for _, o := range ops {
		for n := o.least; n <= o.greatest(1024); n++ {
			switch {
			case o.behind == "n":
				lines[fmt.Sprintf("%s %d", o.words[0], n)] = api.Instr{Op: o.op, N: n}
			case o.behind == "":
				lines[o.words[n-o.least]] = api.Instr{Op: o.op, N: n}
			}
		}
	}
	return lines
}

var instrOf = believed()

// told is what Parse should answer.
type told struct {
	p  api.Program
	e  api.Errno
	at int
}

// parsed works that out from the whole text's lines, error by error.
func parsed(s string) told {
	if len(s) > 65536 {
		return told{e: api.ErrLong}
	}
	lines := strings.SplitAfter(s, "\n")
	if lines[len(lines)-1] == "" {
		lines = lines[:len(lines)-1]
	}
	var p api.Program
	for i, line := range lines {
		if i+1 == 1026 {
			return told{e: api.ErrBadProgram, at: i + 1}
		}
		if i == 0 {
			p.Tag = 1 + slices.Index([]string{"reads\n", "updates\n"}, line)
			if p.Tag == 0 {
				return told{e: api.ErrText, at: 1}
			}
			continue
		}
		in, ok := instrOf[strings.TrimSuffix(line, "\n")]
		if number, push := strings.CutPrefix(line, "push "); push {
			x, e := text.Parse(strings.TrimSuffix(number, "\n"))
			in, ok = api.Instr{Op: 1, X: x}, e == api.OK
		}
		if !ok || !strings.HasSuffix(line, "\n") {
			return told{e: api.ErrText, at: i + 1}
		}
		p.Code = append(p.Code, in)
	}
	if len(p.Code) == 0 {
		return told{e: api.ErrText, at: len(lines) + 1}
	}
	for i, in := range p.Code {
		if in.Op >= 11 && in.Op <= 14 && in.N >= len(p.Code) {
			return told{e: api.ErrBadProgram, at: i + 2}
		}
	}
	return told{p: p}
}

// alike asks bit by bit, by == where code.Same could be wrong.
func alike(a, b api.Program) bool {
	return a.Tag == b.Tag && slices.EqualFunc(a.Code, b.Code, func(x, y api.Instr) bool {
		return x.Op == y.Op && x.N == y.N && math.Float64bits(x.X) == math.Float64bits(y.X)
	})
}

func short(s string) string {
	if len(s) > 200 {
		return fmt.Sprintf("%q .. %q (%d bytes)", s[:100], s[len(s)-60:], len(s))
	}
	return fmt.Sprintf("%q", s)
}

// wantTold holds Parse against what it should answer, and, where it takes the text, Print against the text (P5.4, P5.5).
func wantTold(t *testing.T, s string, right told) {
	t.Helper()
	p, e, at := code.Parse(s)
	if e != right.e || at != right.at || !alike(p, right.p) {
		t.Errorf("Parse(%s) = %v, %d, %d, want %v", short(s), p, e, at, right)
	}
	if e != api.OK {
		return
	}
	if back, e := code.Print(p); back != s || e != api.OK {
		t.Errorf("Print(Parse(%s)) = %s, %d", short(s), short(back), e)
	}
}

func wantWrong(t *testing.T, s string, e api.Errno, at int) {
	t.Helper()
	wantTold(t, s, told{e: e, at: at})
	if m := parsed(s); m.e != e || m.at != at {
		t.Errorf("the test's own answer to %s is %d, %d", short(s), m.e, m.at)
	}
}

// P5.3, P5.4, P5.5: each instruction that there is, but push, by itself at the head of a program in which its place may be.
func TestTextOfEachInstr(t *testing.T) {
	halts := strings.Repeat("halt\n", 1023)
	rest := slices.Repeat([]api.Instr{{Op: 20}}, 1023)
	if len(instrOf) != 64+3*8+8+12+4*1024+100+8 {
		t.Fatalf("%d lines", len(instrOf))
	}
	for line, in := range instrOf {
		p := program(2, append([]api.Instr{in}, rest...)...)
		want := "updates\n" + line + "\n" + halts
		if s, e := code.Print(p); s != want || e != api.OK {
			t.Fatalf("Print(%v) = %s, %d", in, short(s), e)
		}
		wantTold(t, want, told{p: p})
	}
}

// P5.3, P5.4, P5.5: pushes of numbers of all kinds, by chapter 2's texts.
func TestTextOfPush(t *testing.T) {
	for _, x := range append(strewn(), 0, 2, -12, 1.5, 1e300, 2147483648) {
		fixed := x
		if x != x {
			fixed = math.Float64frombits(0x7ff8000000000000)
		}
		want := "reads\npush " + text.Print(x) + "\n"
		if s, e := code.Print(program(1, api.Instr{Op: 1, X: x})); s != want || e != api.OK {
			t.Errorf("Print(push %v) = %q, %d", x, s, e)
		}
		wantTold(t, want, told{p: program(1, api.Instr{Op: 1, X: fixed})})
	}
}

// P5.4: a line that is no instruction's, as the first one and behind another one, ended or not.
func TestWrongLines(t *testing.T) {
	lines := []string{
		"", " ", "\t", "\r", "\x00", "one", "two", "none", "place", "reads", "updates", "nop", "Halt", "HALT", "halt ", " halt", "halt\t", "halt\r", "halt 0", "halt halt", "halts", "hal", "halt;", "halt #", "haltreads",
		"push", "push ", "push  1", "push 1 ", "push\t1", "push1", "push 1.0", "push +1", "push 01", "push 00", "push -00", "push NaN", "push -nan", "push +inf", "push 1e3", "push 0.5", "push x3ff0000000000000", "push x3FE0000000000000", "push x7ff8000000000001", "push 9007199254740992", "push 1 2", "push halt", "push x", " push 1", "push -",
		"drop 0", "dup 0", "swap 0", "ret 0", "read 0", "write 0", "emit 0", "add 0", "add 1", "neg 1", "hash ", "atmost 0", "at most", "is nan", "isNaN", "TwoAdd", "one 1", "two 1",
		"jump", "jump ", "jump  0", "jump 0 ", "jump 0 0", "jump\t0", "jump0", "jump 00", "jump 01", "jump -0", "jump -1", "jump +0", "jump x0", "jump 0.0", "jump 1024", "jump 1025", "jump 2147483647", "jump 2147483648", "jump 4294967296", "jump 18446744073709551616", "jump nan", "jump \xd9\xa0",
		"if 1024", "unless 1024", "call 1024", "if", "unless", "call", "call x", "pick 64", "pick", "pick -1", "pick 064", "pick 4294967296", "arg 8", "arg", "arg -1", "get 8", "get", "get 00", "set 8", "set", "set 1 1", "abort 100", "abort", "abort -1", "abort 099", "abort 0x1",
		"h", "\xff", "halt\xff", "\xefhalt", "\u00e9", "halt\u00a0", "halt\u2028", strings.Repeat("halt", 1000), strings.Repeat(" ", 5000), "push " + strings.Repeat("1", 5000), "jump " + strings.Repeat("0", 5000),
	}
	for _, line := range lines {
		for _, end := range []string{"\n", "\nhalt\n", "\nhalt", "\n\n", "\njump 1000\n"} {
			wantWrong(t, "reads\n"+line+end, api.ErrText, 2)
			wantWrong(t, "updates\nhalt\n"+line+end, api.ErrText, 3)
			wantWrong(t, "reads\njump 1000\ndrop\n"+line+end, api.ErrText, 4)
		}
	}
}

// P5.4: a first line that is none.
func TestWrongTags(t *testing.T) {
	for _, line := range []string{"", " ", "read", "reads ", " reads", "Reads", "READS", "reads\r", "reads 1", "update", "updates ", " updates", "Updates", "updatess", "halt", "1", "2", "push 1", "\x00", "\xffreads", "reads\x00"} {
		for _, end := range []string{"", "\n", "\nhalt\n", "\nhalt", "\n\n", "\nwrong\n", "\njump 7\n"} {
			if line+end == "" {
				continue
			}
			wantWrong(t, line+end, api.ErrText, 1)
		}
	}
	wantWrong(t, "", api.ErrText, 1)
}

// P5.4: a line that is not ended, whatever it is.
func TestUnended(t *testing.T) {
	for _, tag := range []string{"reads", "updates"} {
		wantWrong(t, tag, api.ErrText, 1)
		for _, line := range []string{"halt", "push 1", "jump 0", "jump 1000", "add", "x", " ", "reads"} {
			wantWrong(t, tag+"\n"+line, api.ErrText, 2)
			wantWrong(t, tag+"\nhalt\njump 99\n"+line, api.ErrText, 4)
		}
	}
}

// P5.4: no instruction.
func TestNoInstr(t *testing.T) {
	wantWrong(t, "reads\n", api.ErrText, 2)
	wantWrong(t, "updates\n", api.ErrText, 2)
	wantWrong(t, "reads\n\n", api.ErrText, 2)
	wantWrong(t, "\n", api.ErrText, 1)
}

// P5.4: places at 0, at the last one, one beyond it, and the greatest that a line may have.
func TestPlaces(t *testing.T) {
	for i, word := range []string{"jump", "if", "unless", "call"} {
		for _, many := range []int{1, 2, 3, 17, 1023, 1024} {
			for _, at := range []int{0, many / 2, many - 1} {
				for _, n := range []int{0, many - 2, many - 1, many, many + 1, 1023} {
					if n < 0 || n > 1023 {
						continue
					}
					s := "updates\n" + strings.Repeat("halt\n", at) + fmt.Sprintf("%s %d\n", word, n) + strings.Repeat("halt\n", many-1-at)
					right := told{e: api.ErrBadProgram, at: at + 2}
					if n < many {
						right = told{p: among(many, at, api.Instr{Op: 11 + i, N: n})}
					}
					wantTold(t, s, right)
				}
			}
		}
	}
	wantWrong(t, "reads\ncall 3\nif 4\njump 1\nhalt\n", api.ErrBadProgram, 3)
	wantWrong(t, "reads\nif 4\ncall 4\njump 5\nunless 6\n", api.ErrBadProgram, 2)
	// What is no place may be as great as the program is short.
	wantTold(t, "reads\npick 63\n", told{p: program(1, api.Instr{Op: 5, N: 63})})
	wantTold(t, "reads\nabort 99\n", told{p: program(1, api.Instr{Op: 19, N: 99})})
}

// P5.4: as many instructions as may be, and one more, whatever its line is.
func TestLengths(t *testing.T) {
	full := "reads\n" + strings.Repeat("halt\n", 1024)
	wantTold(t, full, told{p: program(1, slices.Repeat([]api.Instr{{Op: 20}}, 1024)...)})
	for _, more := range []string{"halt\n", "halt", "\n", "wrong\n", "wrong", " ", "jump 2000\n", "halt\nhalt\n", "halt\nwrong\n", "\n\n"} {
		wantWrong(t, full+more, api.ErrBadProgram, 1026)
		// A place that is none is told of only behind all lines.
		wantWrong(t, "reads\njump 1023\n"+strings.Repeat("drop\n", 1023)+more, api.ErrBadProgram, 1026)
		// A line ahead of it comes first.
		wantWrong(t, "reads\n"+strings.Repeat("drop\n", 1023)+"wrong\n"+more, api.ErrText, 1025)
		wantWrong(t, "reads\nwrong\n"+full+more, api.ErrText, 2)
		wantWrong(t, "wrong\n"+full[6:]+more, api.ErrText, 1)
	}
	wantWrong(t, full[:len(full)-1], api.ErrText, 1025)
}

// P5.4: the bound on bytes, which is asked first. A text of so many bytes has too many lines or too long ones.
func TestMaxText(t *testing.T) {
	for _, c := range []struct {
		s  string
		e  api.Errno
		at int
	}{
		{strings.Repeat("x", 65536), api.ErrText, 1},
		{strings.Repeat("\n", 65536), api.ErrText, 1},
		{"reads\n" + strings.Repeat(" ", 65529) + "\n", api.ErrText, 2},
		{"reads\nhalt\npush " + strings.Repeat("1", 65519) + "\n", api.ErrText, 3},
		{"reads\n" + strings.Repeat("halt\n", 13106), api.ErrBadProgram, 1026},
	} {
		if len(c.s) != 65536 {
			t.Fatalf("%d bytes", len(c.s))
		}
		wantWrong(t, c.s, c.e, c.at)
		wantWrong(t, c.s[:65535], c.e, c.at)
		for _, more := range []string{"\n", "x", "halt\n", strings.Repeat(c.s, 2)} {
			wantWrong(t, c.s+more, api.ErrLong, 0)
		}
	}
}

// each goes through all rows of so many pieces at most.
func each(s string, pieces []string, most int, do func(string)) {
	do(s)
	if most == 0 {
		return
	}
	for _, piece := range pieces {
		each(s+piece, pieces, most-1, do)
	}
}

// P5.4, P5.5: the order of the errors, over all rows of a few pieces of text.
func TestEveryShortText(t *testing.T) {
	taken := 0
	each("", []string{"reads", "updates\n", "halt\n", "jump 1", "jump 2\n", "0", " ", "\n", "push -", "add"}, 6, func(s string) {
		right := parsed(s)
		if right.e == api.OK {
			taken++
		}
		wantTold(t, s, right)
	})
	if taken < 100 {
		t.Errorf("only %d texts were taken", taken)
	}
}

// P5.4, P5.5: texts a byte away from a program's.
func TestTextsNearby(t *testing.T) {
	const bytes = "\n 0129-xabdefhijlmnoprstu\x00\xff"
	s := "updates\npush -0\npush x3fe0000000000000\npush 12\nadd\npick 3\njump 10\nif 0\nset 7\nabort 9\nneg\nread\n"
	if parsed(s).e != api.OK {
		t.Fatal("the text itself is none")
	}
	taken := 0
	for i := range len(s) + 1 {
		for k := range len(bytes) {
			near := []string{s[:i] + bytes[k:k+1] + s[i:]}
			if i < len(s) {
				near = append(near, s[:i]+bytes[k:k+1]+s[i+1:], s[:i]+s[i+1:])
			}
			for _, n := range near {
				right := parsed(n)
				if right.e == api.OK {
					taken++
				}
				wantTold(t, n, right)
			}
		}
		wantTold(t, s[:i], parsed(s[:i]))
	}
	if taken < 100 {
		t.Errorf("only %d texts were taken", taken)
	}
}

// madeUp is a program of so many instructions of all kinds, from a rule.
func madeUp(many int, seed uint64) api.Program {
	next := func(n int) int {
		seed = seed*6364136223846793005 + 1442695040888963407
		return int(seed >> 33 % uint64(n))
	}
	p := program(1 + next(2))
	xs := append(strewn(), 0)
	for range many {
		o := ops[next(len(ops))]
		in := api.Instr{Op: o.op, N: o.least + next(o.greatest(many)-o.least+1)}
		if o.op == 1 {
			in.X = []float64{xs[next(len(xs))], float64(next(1 << 30)), math.Float64frombits(seed)}[next(3)]
		}
		p.Code = append(p.Code, in)
	}
	return p
}

// P5.5: programs of all lengths there and back; the longest text is far below MaxText.
func TestThereAndBack(t *testing.T) {
	for i := range 600 {
		p := madeUp(1+i*i%1024, uint64(i))
		if i == 0 {
			p = program(2, slices.Repeat([]api.Instr{{Op: 1, X: 0.5}}, 1024)...)
		}
		s, e := code.Print(p)
		if e != api.OK || code.Check(p) != api.OK {
			t.Fatalf("Print(%v): %d", p, e)
		}
		q, e, at := code.Parse(s)
		if e != api.OK || at != 0 || !code.Same(p, q) {
			t.Errorf("Parse of %s: %d, %d", short(s), e, at)
		}
		wantTold(t, s, parsed(s))
	}
}

// R4, R5: what Parse tells is the caller's own, the spare room too, and no later answer sees what is done to it.
func TestParsedIsTheCallers(t *testing.T) {
	for _, s := range []string{"reads\nhalt\n", "updates\npush 1\npush nan\nadd\njump 2\nhalt\n", "reads\n" + strings.Repeat("pick 5\n", 1000)} {
		right := parsed(s)
		first, _, _ := code.Parse(s)
		second, _, _ := code.Parse(s)
		all := first.Code[:cap(first.Code)]
		for i := range all {
			all[i] = api.Instr{Op: -1, N: -1, X: -1}
		}
		if !alike(second, right.p) {
			t.Errorf("one answer to %s changed with another", short(s))
		}
		wantTold(t, s, right)
	}
}

// R5: what was wrong once leaves nothing behind.
func TestParseBehindAFault(t *testing.T) {
	for _, wrong := range []string{"", "x", "reads\nhalt\nx\n", "reads\njump 9\n", strings.Repeat("x", 70000)} {
		code.Parse(wrong)
		wantTold(t, "reads\nhalt\n", told{p: program(1, api.Instr{Op: 20})})
	}
}

// The examples of the chapter on texts.
func TestExamplesOfText(t *testing.T) {
	p := program(api.Updates, api.Instr{Op: api.OpPush, X: minus0}, api.Instr{Op: api.OpPush, X: 0.5}, api.Instr{Op: api.OpTwo, N: api.TwoAdd}, api.Instr{Op: api.OpPick, N: 3}, api.Instr{Op: api.OpJump})
	want := "updates\npush -0\npush x3fe0000000000000\nadd\npick 3\njump 0\n"
	if s, e := code.Print(p); s != want || e != api.OK {
		t.Errorf("Print = %q, %d", s, e)
	}
	wantTold(t, want, told{p: p})
	wantTold(t, "reads\nhalt\n", told{p: program(api.Reads, api.Instr{Op: api.OpHalt})})
	wantWrong(t, "", api.ErrText, 1)
	wantWrong(t, "reads", api.ErrText, 1)
	wantWrong(t, "reads\n", api.ErrText, 2)
	wantWrong(t, "reads\njump 1\n", api.ErrBadProgram, 2)
	wantWrong(t, "reads\njump 01\njump 5\n", api.ErrText, 2)
	wantWrong(t, "reads\none\n", api.ErrText, 2)
	wantWrong(t, "reads\npush 1.0\n", api.ErrText, 2)
	wantWrong(t, "reads\nhalt \n", api.ErrText, 2)
}
