package lines_test

import (
	"fmt"
	"strings"
	"testing"

	"beadle/api"
	"beadle/lines"
)

// thrownProgram is a text that may be a program's, or not.
func thrownProgram(r *rule) string {
	s := oneOf(r, "reads", "updates", "updates", " updates ")
	for range 1 + r.below(8) {
		s += oneOf(r, ";", "; ", " ;") + oneOf(r,
			"push 0", "push 1", "push  2", "push 0; read", "push 1; read; emit", "arg 0", "arg 0; emit", "arg 0; push 0; write", "push 1; push 1; write", "push 0; read; push 1; add; push 0; write",
			"emit", "add", "dup", "drop", "halt", "if 1", "unless 3", "jump 2", "call 1", "ret", "abort 5", "abort 0", "push 7; write", "push nan; emit", "push -0", "read", "set 1", "get 1; emit",
			oneOf(r, "fly", "jump 30", "push", "", "push 01", "halt"))
	}
	return s
}

// thrownLine is a line that the table has.
func thrownLine(r *rule) string {
	if r.below(2) == 0 {
		return thrownSetting(r)
	}
	return thrownTelling(r)
}

func some(r *rule, most int, each func() string) string {
	s := ""
	for range r.below(most + 1) {
		s += oneOf(r, " ", " ", "\t", "  ") + each()
	}
	return s
}

func thrownThread(r *rule) string {
	return fmt.Sprint(oneOf(r, 0, 0, 0, 0, 0, 1, 1, 1, 1, 1, 1, r.below(10)))
}

// thrownSetting is a line of those that tell the setup.
func thrownSetting(r *rule) string {
	name := func() string { return oneOf(r, "a", "b", "c", "s", "abcdefgh-0") }
	ofStructure := func() string {
		return "s-" + oneOf(r, "put", "put", "get", "all", "len", "pb", "pf", "of", "ob", "at", "del", "least", "after")
	}
	x := func() string {
		return oneOf(r, "0", "-0", "1", "2", "5", "nan", "-inf", "x3fe0000000000000", "-3", "1", "2")
	}
	switch r.below(16) {
	case 0:
		return fmt.Sprintf("config %d %d %d %d", oneOf(r, 1, 2, 5, 40, 40, 40, r.below(300)), oneOf(r, 8, 8, 2+r.below(8)), oneOf(r, 50, 200, 1024, 1024, r.below(1100)), oneOf(r, 1, 8, 8, 8, r.below(40)))
	case 1:
		return "start" + some(r, 3, x)
	case 2, 3, 4:
		return "program " + name() + " " + thrownProgram(r)
	case 5:
		return fmt.Sprintf("%s s %d %d", oneOf(r, "tree", "table", "deque"), r.below(5), oneOf(r, 12, 20, 30, r.below(300)))
	}
	return "call " + thrownThread(r) + " " + oneOf(r, name(), name(), ofStructure(), ofStructure(), "nobody") + some(r, 3, x)
}

// thrownTelling is any other line.
func thrownTelling(r *rule) string {
	switch r.below(12) {
	case 0, 1, 2:
		return "run" + some(r, 40, func() string { return thrownThread(r) })
	case 3:
		return fmt.Sprint("rounds ", oneOf(r, 0, 1, 5, 30, 200, r.below(1100)))
	case 4, 5:
		return "out " + fmt.Sprint(r.below(3), " ", r.below(4))
	case 6:
		return oneOf(r, "again", "deeds")
	}
	return oneOf(r, "state", "deeds", "deeds", "order", "judge")
}

// thrownScript tells a setup, goes on with what is made of it, and so once more, with lines of the other sort here and there, and some that are to be passed over.
func thrownScript(r *rule) []string {
	all := []string{"config 40 8 1024 8", oneOf(r, "tree", "table", "deque") + " s 0 30"}
	for _, name := range []string{"a", "b"} {
		all = append(all, "program "+name+" "+oneOf(r, "updates; push 0; read; arg 0; add; dup; emit; push 0; write; halt", "updates; arg 1; push 1; write; halt", "reads; push 0; read; emit; push 1; read; emit; halt", "reads; arg 0; emit; jump 0", "updates; push 1; read; if 4; halt; abort 3"))
	}
	for range 1 + r.below(3) {
		for range 5 + r.below(20) {
			all = append(all, thrownSetting(r))
		}
		if r.below(4) == 0 {
			all = append(all, thrownLine(r))
		}
		for range 3 + r.below(20) {
			all = append(all, thrownTelling(r))
		}
		if r.below(4) == 0 {
			all = append(all, thrownLine(r))
		}
		all = append(all, oneOf(r, "again", "again", "", "\t # no"))
	}
	return all
}

// P23.1 to P23.3: thrown lines, told to a desk and by Run, tell what the model tells; a text's first lines tell the first answers; judge finds nothing.
func TestThrown(t *testing.T) {
	ends := map[string]int{}
	for seed := range 2500 {
		r := rule(seed)
		var answers strings.Builder
		all := thrownScript(&r)
		w := told(t)
		for _, line := range all {
			if line == "" || strings.Contains(line, "#") {
				continue
			}
			want := w.m.line(line)
			wantAnswer(t, w.d, line, want)
			answers.WriteString(want + "\n")
			count(ends, line, want)
		}
		wantRun(t, strings.Join(all, "\n"), answers.String(), api.OK, 0)
		wantBegins(t, &r, all, answers.String())
		wantJudge(t, w.d)
		if t.Failed() {
			t.Fatalf("by the script %d:\n%s", seed, strings.Join(all, "\n"))
		}
	}
	for _, end := range []string{"going", "committed", "abort", "error", "error 1", "error 3", "error 20", "error 50", "error 100", "error 160", "error 200", "out"} {
		if ends[end] < 100 {
			t.Errorf("only %d of %s", ends[end], end)
		}
	}
}

// count notes what was seen, lest the thrown lines do but a part of all.
func count(ends map[string]int, line, answer string) {
	if strings.HasPrefix(answer, "error") {
		ends[strings.Join(strings.Fields(answer)[:2], " ")]++
	}
	if line == "deeds" {
		for _, end := range []string{"going", "committed", "abort", "error"} {
			ends[end] += strings.Count(answer, ":"+end)
		}
	}
	if strings.HasPrefix(line, "out") && strings.HasPrefix(answer, "ok ") {
		ends["out"]++
	}
}

// wantBegins looks at P23.3: a text's answers begin with those of its first lines.
func wantBegins(t *testing.T, r *rule, all []string, answers string) {
	t.Helper()
	n := r.below(len(all) + 1)
	first, second := strings.Join(all[:n], "\n")+"\n", strings.Join(all[n:], "\n")
	if n == 0 {
		first = ""
	}
	begin, e, _ := lines.Run(first)
	whole, e2, _ := lines.Run(first + second)
	if e != api.OK || e2 != api.OK || !strings.HasPrefix(whole, begin) || whole != answers {
		t.Errorf("Run of the first %d lines tells %q, of all %q", n, begin, whole)
	}
}

// wantJudge looks at P23.3: judge finds nothing, or there is no engine by the setup.
func wantJudge(t *testing.T, d *lines.Desk) {
	t.Helper()
	answer, e := d.Line("judge")
	if e != api.OK || answer != "ok -1 -1 -1" && answer != "error 1" && answer != "error 160" {
		t.Errorf("judge: %q, %d", answer, e)
	}
}

// P23.3: judge finds nothing at any step of transactions that are in each other's way.
func TestJudgeAtEachStep(t *testing.T) {
	for seed := range 60 {
		r := rule(seed)
		d := lines.New()
		talk(t, d, "config 3 3 60 3 -> ok", "program w updates; push 0; read; push 1; add; dup; push 0; write; push 1; write; halt -> ok", "program r reads; push 0; read; emit; push 1; read; emit; halt -> ok", "program x updates; push 9; push 2; write; push 0; read; if 7; abort 4; halt -> ok")
		for range 8 {
			talk(t, d, fmt.Sprintf("call %d %s -> ok", r.below(3), oneOf(&r, "w", "w", "r", "r", "x")))
		}
		for range 150 {
			d.Line(fmt.Sprint("run ", r.below(3)))
			talk(t, d, "judge -> ok -1 -1 -1")
		}
		if t.Failed() {
			t.Fatal(seed)
		}
	}
}
