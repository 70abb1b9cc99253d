package lines_test

import (
	"fmt"
	"strings"
	"testing"

	"beadle/lines"
)

// setting are lines that are barred, if there is an engine, whatever else is wrong with them.
var setting = []string{
	"config 1 1 1 1", "config 2 2 50 2", "config 0 0 0 0", "start", "start 7", "program a reads; halt", "program b reads; halt", "program b reads; fly", "program b ;",
	"tree t 0 9", "tree t 0 0", "table t 0 20", "table t 999 9", "deque t 0 9", "deque t 0 2", "call 0 a", "call 0 none", "call 99 a",
}

// making are lines that make an engine, if there is none, with what they answer, and how many steps they did, where thread 0 of two has one call.
var making = []struct {
	line, answer string
	steps        int
}{
	{"run", "ok 0", 0}, {"run 0", "ok 1", 1}, {"run 1", "ok 0", 0}, {"run 6 1 0 2147483646", "ok 3", 3}, {"rounds 0", "ok 0", 0}, {"rounds 1", "ok 1", 1}, {"rounds 1000", "ok 14", 14}, {"rounds 2147483647", "ok 14", 14},
	{"state", "ok 5", 0}, {"deeds", "ok", 0}, {"out 0 0", "error 100", 0}, {"out 9 9", "error 100", 0}, {"order", "ok", 0}, {"judge", "ok -1 -1 -1", 0},
}

// P23.1: who makes an engine bars the lines that tell what it is made of, also where it is answered with another error; behind again all is as it was.
func TestBarred(t *testing.T) {
	for _, c := range making {
		d := lines.New()
		talk(t, d, "config 1 2 1024 32 -> ok", "program a updates; push 8; push 0; write; halt -> ok", "start 5 -> ok", "call 0 a -> ok", c.line+" -> "+c.answer)
		for _, line := range setting {
			talk(t, d, line+" -> error 3")
		}
		talk(t, d, "fly -> none", "config 1 1 1 -> none", "program A reads; halt -> none", fmt.Sprint("rounds 99 -> ok ", 14-c.steps), "state -> ok 8", "start -> error 3", "again -> ok", "again -> ok")
		talk(t, d, "state -> ok 5", "rounds 99 -> ok 14", "deeds -> ok 0.0:committed:0", "again -> ok", "call 0 none -> error 1", "call 0 a -> ok", "rounds 99 -> ok 28", "deeds -> ok 0.0:committed:0 0.1:committed:1")
	}
}

// P23.1: of a setup that may not be each of these tells the engine's error, and there is no engine behind it.
func TestNoEngine(t *testing.T) {
	for _, c := range making {
		d := lines.New()
		talk(t, d, "program a updates; push 8; push 0; write; halt -> ok", "start 1 2 -> ok", c.line+" -> error 1", c.line+" -> error 1", "start 5 -> ok", "call 1 a -> ok", c.line+" -> error 160", "config 1 2147483647 1024 32 -> ok", c.line+" -> error 1", "config 1 9 1024 32 -> ok", c.line+" -> error 1", "again -> ok", c.line+" -> error 1")
		talk(t, d, "config 1 2 1024 32 -> ok", "start 5 -> ok", "call 0 a -> ok", c.line+" -> "+c.answer, "start 5 -> error 3")
	}
}

// P23.1: run steps the threads that it is told, folded, and counts what did something.
func TestRun(t *testing.T) {
	d := lines.New()
	talk(t, d, "config 1 3 50 1 -> ok", "program w updates; push 8; push 0; write; halt -> ok", "program r reads; push 0; read; emit; halt -> ok", "call 0 w -> ok", "call 2 r -> ok",
		"run -> ok 0", "run 1 -> ok 0", "run 1 4 7 1 -> ok 0", "run 2 5 8 -> ok 3", "deeds -> ok 2.0:going:0", "run 0 3 6 9 2147483646 1 -> ok 5", "deeds -> ok 2.0:going:0 0.0:going:0", "state -> ok 0",
		"run 0 0 0 0 0 0 0 -> ok 7", "state -> ok 0", "run 0 0 -> ok 2", "state -> ok 8", "deeds -> ok 2.0:going:0 0.0:going:0", "run 0 0 -> ok 1", "deeds -> ok 2.0:going:0 0.0:committed:0",
		"out 2 0 -> ok", "run 2 2 2 2 2 -> ok 5", "out 2 0 -> ok 0", "deeds -> ok 2.0:going:0 0.0:committed:0", "run 2 2 -> ok 1", "deeds -> ok 2.0:committed:0 0.0:committed:0", "order -> ok 2.0 0.0", "judge -> ok -1 -1 -1", "run 0 1 2 -> ok 0")
	// As many as a line has room for.
	d = lines.New()
	talk(t, d, "program a reads; jump 0 -> ok", "call 0 a -> ok", "run"+strings.Repeat(" 0", 510)+" -> ok 510", "run"+strings.Repeat(" 1", 510)+" -> ok 510", "run 0 0 0 0 0 0 0 0 -> ok 8", "deeds -> ok 0.0:going:0", "run 0 0 -> ok 1", "deeds -> ok 0.0:error-80:0")
}

// P23.1: rounds steps each thread of the Config in order, and 1000 times at most.
func TestRounds(t *testing.T) {
	d := lines.New()
	talk(t, d, "config 1 8 1024 1 -> ok", "program a reads; jump 0 -> ok")
	for thread := range 8 {
		for range 3 {
			talk(t, d, fmt.Sprintf("call %d a -> ok", thread))
		}
	}
	talk(t, d, "rounds 0 -> ok 0", "deeds -> ok", "rounds 1 -> ok 8", "deeds -> ok 0.0:going:-1 1.0:going:-1 2.0:going:-1 3.0:going:-1 4.0:going:-1 5.0:going:-1 6.0:going:-1 7.0:going:-1", "rounds 999 -> ok 7992", "rounds 1000 -> ok 8000", "rounds 1001 -> ok 8000", "rounds 2147483647 -> ok 696", "rounds 1 -> ok 0")
	talk(t, d, "again -> ok", "rounds 2147483647 -> ok 8000", "rounds 999 -> ok 7992", "again -> ok", "rounds 1001 -> ok 8000", "again -> ok", "rounds 10 -> ok 80")
	// In order: the updater of the lesser thread draws first, and those that were stepped beside it count, too.
	talk(t, d, "again -> ok", "config 1 3 50 1 -> ok", "program w updates; arg 0; push 0; write; halt -> ok", "call 2 w 2 -> ok", "call 0 w 0 -> ok", "call 1 w 1 -> ok", "rounds 1 -> ok 3", "deeds -> ok 0.0:going:0 1.0:going:1 2.0:going:2", "run 1 2 -> ok 2", "rounds 100 -> ok 81", "order -> ok 0.0 1.0 2.0", "state -> ok 2")
}

// P23.1: deeds tells each end, and each mark.
func TestDeeds(t *testing.T) {
	d := lines.New()
	talk(t, d, "config 2 8 20 1 -> ok",
		"program c updates; push 1; push 0; write; halt -> ok", "program a updates; abort 99 -> ok", "program z reads; abort 0 -> ok", "program s reads; drop -> ok", "program f reads; jump 0 -> ok", "program w reads; push 1; push 0; write -> ok", "program b updates; push 2; read -> ok", "program m updates; push 1; push 0; write; push 1; push 1; write -> ok", "program g reads; push 0; emit; jump 0 -> ok")
	for thread, name := range []string{"a", "z", "s", "f", "w", "b", "m", "g"} {
		talk(t, d, fmt.Sprintf("call %d %s -> ok", thread, name), fmt.Sprintf("call %d c -> ok", thread))
	}
	talk(t, d, "deeds -> ok", "run 7 7 -> ok 2", "deeds -> ok 7.0:going:-1", "run 7 7 7 -> ok 3", "deeds -> ok 7.0:going:0", "out 7 0 -> ok 0", "order -> ok 7.0", "run 1 1 -> ok 2", "deeds -> ok 7.0:going:0 1.0:going:-1", "order -> ok 7.0")
	talk(t, d, "run 6 5 0 0 -> ok 4", "deeds -> ok 7.0:going:0 1.0:going:-1 6.0:going:0 5.0:going:1 0.0:going:2", "order -> ok 7.0 6.0 5.0 0.0")
	d.Line("rounds 1000")
	answer, _ := d.Line("deeds")
	first := "ok 7.0:error-80:0 1.0:abort-0:0 6.0:error-70:0 5.0:error-50:1 0.0:abort-99:2 2.0:error-82:0 3.0:error-80:0 4.0:error-81:0"
	if !strings.HasPrefix(answer, first) || strings.Count(answer, ":committed:") != 8 {
		t.Errorf("deeds tells %q", answer)
	}
	for ticket := 3; ticket < 11; ticket++ {
		if !strings.Contains(answer+" ", fmt.Sprintf(":committed:%d ", ticket)) {
			t.Errorf("nobody committed with the ticket %d: %q", ticket, answer)
		}
	}
	talk(t, d, "judge -> ok -1 -1 -1", "state -> ok 1 0")
	// A reader's mark is its stamp, an updater's its ticket.
	d = lines.New()
	talk(t, d, "program w updates; push 1; push 0; write; halt -> ok", "program r reads; push 0; read; emit; halt -> ok", "call 0 w -> ok", "call 0 r -> ok", "call 0 w -> ok", "call 0 w -> ok", "call 0 r -> ok", "rounds 999 -> ok 59", "deeds -> ok 0.0:committed:0 0.1:committed:1 0.2:committed:1 0.3:committed:2 0.4:committed:3", "order -> ok 0.0 0.1 0.2 0.3 0.4")
}

// P23.1: out tells what a deed has emitted as yet, number by number; who has not begun has no deed.
func TestOut(t *testing.T) {
	d := lines.New()
	talk(t, d, "config 3 2 99 1 -> ok", "start -0 nan x3fe0000000000000 -> ok", "program all reads; push 0; read; emit; push 1; read; emit; push 2; read; emit; push -inf; emit; push 9007199254740991; emit; push 0; emit; halt -> ok", "program not updates; abort 3 -> ok", "call 1 all -> ok", "call 1 not -> ok",
		"out 1 0 -> error 100", "run 1 -> ok 1", "out 1 0 -> ok", "out 1 1 -> error 100", "out 0 0 -> error 100", "out 0 1 -> error 100", "out 2 0 -> error 100", "out 2147483647 2147483647 -> error 100", "run 1 1 1 1 1 1 1 -> ok 7", "out 1 0 -> ok -0", "rounds 99 -> ok 23",
		"out 1 0 -> ok -0 nan x3fe0000000000000 -inf 9007199254740991 0", "out 1 1 -> ok", "out 1 2 -> error 100", "deeds -> ok 1.0:committed:0 1.1:abort-3:0", "out 0 0 -> error 100")
}

// P23.1: state is the numbers of the stamp that was published last.
func TestState(t *testing.T) {
	d := lines.New()
	talk(t, d, "config 2 1 99 2 -> ok", "start 7 -inf -> ok", "program w updates; push nan; push 0; write; push x3fe0000000000000; push 1; write; halt -> ok", "call 0 w -> ok", "run"+strings.Repeat(" 0", 17)+" -> ok 17", "state -> ok 7 -inf", "run 0 -> ok 1", "state -> ok nan x3fe0000000000000", "run 0 0 -> ok 1", "state -> ok nan x3fe0000000000000")
}

// P23.1: order is that of history, which is not the one in which they began.
func TestOrder(t *testing.T) {
	d := lines.New()
	talk(t, d, "config 1 3 50 1 -> ok", "program w updates; push 0; read; push 1; add; push 0; write; halt -> ok", "program r reads; push 0; read; emit; halt -> ok", "call 2 w -> ok", "call 1 w -> ok", "call 0 r -> ok", "order -> ok", "run 0 0 -> ok 2", "order -> ok", "run 1 -> ok 1", "order -> ok 1.0", "run 2 -> ok 1", "order -> ok 1.0 2.0", "run 0 -> ok 1", "order -> ok 0.0 1.0 2.0", "again -> ok")
	talk(t, d, "run 2 -> ok 1", "rounds 100 -> ok 61", "order -> ok 0.0 2.0 1.0", "deeds -> ok 2.0:committed:0 0.0:committed:0 1.0:committed:1", "state -> ok 2", "judge -> ok -1 -1 -1")
}

// P23.1: an error has changed nothing: a desk that is told other lines between, each answered with an error, answers as one that is not.
func TestErrorsChangeNothing(t *testing.T) {
	wrong := []string{
		"fly", "", "config 3 3 3", "start a", "program", "program b", "program b reads; fly", "program a reads; fly", "program a ;", "tree a 0 6", "table all 0 10", "deque a 254 3", "call 8 a", "call 0 nobody", "call 7 nobody", "call 0 a x", "run a", "run 0 0 -1", "run 0 x", "rounds", "rounds -1", "rounds 1 1", "state 1", "deeds 1", "out 0", "out x 0", "order 0", "judge 0", "again 0", strings.Repeat(" ", 1025), "again" + strings.Repeat(" ", 1020),
	}
	barred := append([]string{"out 7 7", "out 0 9"}, setting...)
	plain, disturbed := lines.New(), lines.New()
	behind := false
	for _, one := range example {
		line, _, _ := strings.Cut(one, " -> ")
		for _, other := range wrong {
			if answer, e := disturbed.Line(other); e == 0 && !strings.HasPrefix(answer, "error ") {
				t.Errorf("Line(%q) = %q, %d", other, answer, e)
			}
		}
		for _, other := range barred {
			if !behind {
				break
			}
			if answer, _ := disturbed.Line(other); !strings.HasPrefix(answer, "error ") {
				t.Errorf("Line(%q) = %q", other, answer)
			}
		}
		a, ea := plain.Line(line)
		b, eb := disturbed.Line(line)
		if a != b || ea != eb {
			t.Errorf("Line(%q) = %q, %d, and %q, %d where others were told between", line, a, ea, b, eb)
		}
		behind = behind && line != "again" || strings.HasPrefix(line, "run")
	}
}

// P23.1, R5: behind again the same lines tell the same; two desks that are told in turn know nothing of one another.
func TestAgainAndApart(t *testing.T) {
	script := []string{"deeds", "run 0 1 2 0 1 2 2 2 2 1 1 0", "deeds", "order", "rounds 7", "deeds", "state", "judge", "rounds 500", "deeds", "out 0 0", "out 1 1", "out 2 0", "order", "state", "judge"}
	set := []string{"config 40 3 1024 8", "tree t 0 25", "deque q 30 8", "program a updates; push 39; read; arg 0; add; dup; emit; push 39; write; halt", "start 0 0", "call 0 t-put 5 6", "call 0 t-all", "call 1 q-pb 7", "call 1 a 3", "call 2 a 4", "call 2 q-all"}
	d, other, turn := lines.New(), told(t), rule(5)
	tell := func(all []string) string {
		s := ""
		for _, line := range all {
			answer, e := d.Line(line)
			s += fmt.Sprintln(answer, e)
			other.tell(oneOf(&turn, "state", "config 2 2 50 2", "start 1 2", "program a reads; push 4; emit", "call 0 a", "call 1 a 9", "run 0 1", "rounds 3", "deeds", "judge", "again", "deque q 0 3"))
		}
		return s
	}
	tell(set)
	first := tell(script)
	for range 3 {
		tell([]string{"again"})
		if s := tell(script); s != first {
			t.Errorf("behind again\n%s, not\n%s", s, first)
		}
	}
	// Nor does it count when what the engine is made of was told.
	d = lines.New()
	tell(set[:6])
	tell([]string{"state", "again"})
	tell(set[6:])
	if s := tell(script); s != first {
		t.Errorf("told in two parts\n%s, not\n%s", s, first)
	}
}
