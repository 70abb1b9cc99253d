package lines_test

import (
	"fmt"
	"strings"
	"testing"

	"beadle/api"
	"beadle/lines"
)

func wantRun(t *testing.T, script, want string, fault api.Errno, line int) {
	t.Helper()
	got, e, at := lines.Run(script)
	if got != want || e != fault || at != line {
		if len(script) > 200 {
			script = fmt.Sprint(len(script), " bytes")
		}
		t.Errorf("Run(%q) = %q, %d, %d, want %q, %d, %d", script, got, e, at, want, fault, line)
	}
}

// P23.2: which lines count, and which number the one that is none has.
func TestRunLines(t *testing.T) {
	for _, c := range []struct {
		script, answers string
		at              int
	}{
		{"", "", 0}, {"\n", "", 0}, {"\n\n\n", "", 0}, {" ", "", 0}, {" \t\n\t", "", 0}, {"#", "", 0}, {"# state\n#\n#state\n \t# fly\n#\xff", "", 0},
		{"state", "ok 0\n", 0}, {"state\n", "ok 0\n", 0}, {"\n\nstate", "ok 0\n", 0}, {"state\n\n \n# no\nstate\n", "ok 0\nok 0\n", 0}, {"\tstate \n state\t", "ok 0\nok 0\n", 0},
		{"start 5\nstate\nstart 6\nagain\nstart 6\nstate\n", "ok\nok 5\nerror 3\nok\nok\nok 6\n", 0},
		{"fly", "", 1}, {"fly\n", "", 1}, {"\nfly", "", 2}, {"state\n\n# a\nfly\nfly\n", "", 4}, {"state\nstate\nstate 1\n", "", 3}, {"state\r\n", "", 1}, {"state\n\r\n", "", 2}, {"state #\n", "", 1}, {"state\x00", "", 1},
		{"call 0 a\nrun -1", "", 2}, {"config 1 1 1", "", 1}, {"program a", "", 1}, {"program a\nreads", "", 1}, {"\v", "", 1}, {"\u00a0", "", 1}, {"\u00a0# no", "", 1}, {"s#", "", 1},
		{"program a reads; fly\ncall 0 a\nconfig 0 0 0 0\nstate\n", "error 20 2\nerror 1\nok\nerror 1\n", 0},
		{"program a ##; #\n", "error 20 1\n", 0},
	} {
		fault := api.OK
		if c.at > 0 {
			fault = api.ErrScript
		}
		wantRun(t, c.script, c.answers, fault, c.at)
	}
	var script, answers string
	for _, one := range example {
		line, answer, _ := strings.Cut(one, " -> ")
		if answer != none {
			script += line + "\n"
			answers += answer + "\n"
		}
	}
	wantRun(t, script, answers, api.OK, 0)
	wantRun(t, "\n#\n"+strings.ReplaceAll(script, "\n", "\n\n # \n"), answers, api.OK, 0)
	wantRun(t, script+"fly", "", api.ErrScript, 20)
}

// P23.2: a line that is too long is none, but where it is passed over.
func TestRunLongLines(t *testing.T) {
	blanks := func(n int) string { return strings.Repeat(" ", n) }
	wantRun(t, "state\nstate"+blanks(1019)+"\nstate\n", "ok 0\nok 0\nok 0\n", api.OK, 0)
	wantRun(t, "state\nstate"+blanks(1020)+"\nfly\n", "", api.ErrScript, 2)
	wantRun(t, "state\nfly\nstate"+blanks(1020)+"\n", "", api.ErrScript, 2)
	wantRun(t, "\n"+blanks(1020)+"state", "", api.ErrScript, 2)
	wantRun(t, "state\n#"+blanks(5000)+"\n"+blanks(1030)+"# "+strings.Repeat("x", 5000)+"\n"+blanks(5000)+"\n"+strings.Repeat("\t", 1025)+"\nstate", "ok 0\nok 0\n", api.OK, 0)
	wantRun(t, "state\n"+strings.Repeat("x", 1025), "", api.ErrScript, 2)
}

// P23.2: the bounds of a text are looked at ahead of its lines.
func TestRunBounds(t *testing.T) {
	wantRun(t, strings.Repeat("\n", 2000), "", api.OK, 0)
	wantRun(t, strings.Repeat("\n", 2001), "", api.ErrLong, 0)
	wantRun(t, strings.Repeat("#\n", 2000), "", api.OK, 0)
	wantRun(t, strings.Repeat("#\n", 2000)+" ", "", api.ErrLong, 0)
	wantRun(t, strings.Repeat("state\n", 2000), strings.Repeat("ok 0\n", 2000), api.OK, 0)
	wantRun(t, strings.Repeat("state\n", 1999)+"state", strings.Repeat("ok 0\n", 2000), api.OK, 0)
	wantRun(t, strings.Repeat("state\n", 2000)+"state", "", api.ErrLong, 0)
	wantRun(t, "fly\n"+strings.Repeat("state\n", 2000), "", api.ErrLong, 0)
	wantRun(t, "fly\n"+strings.Repeat("state\n", 1999), "", api.ErrScript, 1)
	wantRun(t, strings.Repeat("state\n", 1999)+"fly\n", "", api.ErrScript, 2000)
	wantRun(t, strings.Repeat("\n", 65536), "", api.ErrLong, 0)
	line := "state" + strings.Repeat(" ", 1018) + "\n"
	wantRun(t, strings.Repeat(line, 64), strings.Repeat("ok 0\n", 64), api.OK, 0)
	wantRun(t, strings.Repeat(line, 64)+"\n", "", api.ErrLong, 0)
	wantRun(t, "fly\n"+strings.Repeat(line, 64), "", api.ErrLong, 0)
	wantRun(t, "#"+strings.Repeat("é", 32767)+"x", "", api.OK, 0)
	wantRun(t, "#"+strings.Repeat("é", 32768), "", api.ErrLong, 0)
	wantRun(t, strings.Repeat(" ", 1<<21), "", api.ErrLong, 0)
}

// P23.2: the answers are those of one desk, by itself: a Run knows nothing of another one, nor of a desk.
func TestRunApart(t *testing.T) {
	d := lines.New()
	talk(t, d, "program a reads; push 1; emit; halt -> ok", "start 9 -> ok", "call 0 a -> ok")
	wantRun(t, "call 0 a\nstate\n", "error 1\nok 0\n", api.OK, 0)
	wantRun(t, "program a reads; push 2; emit; halt\ncall 0 a\nrounds 20\nout 0 0\n", "ok\nok\nok 7\nok 2\n", api.OK, 0)
	wantRun(t, "call 0 a\nfly\n", "", api.ErrScript, 2)
	wantRun(t, "call 0 a\nout 0 0\n", "error 1\nerror 100\n", api.OK, 0)
	talk(t, d, "rounds 20 -> ok 7", "out 0 0 -> ok 1", "state -> ok 9")
}
