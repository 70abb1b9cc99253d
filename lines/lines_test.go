package lines_test

import (
	"os"
	"strconv"
	"strings"
	"testing"

	"beadle/api"
	"beadle/lines"
	"beadle/text"
)

// none is what is said of a line that the table does not have.
const none = "none"

// talk tells a desk lines, one behind the other; behind ` -> ` stands what it must answer.
func talk(t *testing.T, d *lines.Desk, said ...string) {
	t.Helper()
	for _, one := range said {
		line, want, _ := strings.Cut(one, " -> ")
		wantAnswer(t, d, line, want)
	}
}

func wantAnswer(t *testing.T, d *lines.Desk, line, want string) {
	t.Helper()
	fault := api.OK
	if want == none {
		want, fault = "", api.ErrLine
	}
	if got, e := d.Line(line); got != want || e != fault {
		t.Errorf("Line(%q) = %q, %d, want %q, %d", line, got, e, want, fault)
	}
}

// example is the chapter's table of examples, line by line.
var example = []string{
	"config 2 2 50 2 -> ok", "start 3 -0 -> ok",
	"program add updates; push 0; read; arg 0; add; push 0; write; halt -> ok",
	"program all reads; push 0; read; emit; push 1; read; emit; halt -> ok",
	"program x reads; fly -> error 20 2",
	"call 0 add 4 -> ok", "call 1 all -> ok", "call 1 none -> error 1",
	"run 1 1 1 -> ok 3", "rounds 30 -> ok 29",
	"state -> ok 7 -0", "deeds -> ok 1.0:committed:0 0.0:committed:0", "out 1 0 -> ok 3 -0", "order -> ok 1.0 0.0", "judge -> ok -1 -1 -1",
	"start 1 -> error 3", "again -> ok", "start 1 -> ok", "fly -> none", "out 5 0 -> error 100",
}

// P23.1: the chapter's examples.
func TestExamples(t *testing.T) {
	talk(t, lines.New(), example...)
}

// P23.1: what the README says of this package.
func TestReadme(t *testing.T) {
	d := lines.New()
	talk(t, d,
		"config 60 2 1024 8 -> ok", "tree t 0 30 -> ok", "program twice updates; push 59; read; dup; add; push 59; write; halt -> ok", "program bad reads; fly -> error 20 2",
		"call 0 t-put 5 50 -> ok", "call 0 twice -> ok", "call 1 t-get 5 -> ok", "call 1 t-get 5 -> ok",
		"run 1 1 1 -> ok 3", "call 1 t-len -> error 3", "rounds 1000 -> ok 162",
		"deeds -> ok 1.0:committed:0 0.0:committed:0 1.1:committed:0 0.1:committed:1", "out 1 0 -> ok", "order -> ok 1.0 1.1 0.0 0.1", "judge -> ok -1 -1 -1", "again -> ok", "fly -> none")
	wantRun(t, "# a remark\nstart 3\nstate\n", "ok\nok 3\n", api.OK, 0)
	wantRun(t, "state\nfly\n", "", api.ErrScript, 2)
}

// P23.1: a desk at its beginning: one cell, one thread, all the fuel and writes that there may be, no numbers at first, no programs, no calls, no engine.
func TestNew(t *testing.T) {
	d := lines.New()
	talk(t, d, "call 0 a -> error 1", "start 1 -> ok", "start -> ok", "state -> ok 0", "deeds -> ok", "order -> ok", "judge -> ok -1 -1 -1", "run 0 1 2 -> ok 0", "rounds 5 -> ok 0", "out 0 0 -> error 100", "start -> error 3")
	d = lines.New()
	talk(t, d, "program a reads; push 0; drop; jump 0 -> ok", "program b updates; push 1; push 0; write; halt -> ok", "call 0 a -> ok", "call 0 b -> ok", "rounds 1000 -> ok 1000", "deeds -> ok 0.0:going:0", "rounds 28 -> ok 28", "deeds -> ok 0.0:going:0", "rounds 1 -> ok 1", "deeds -> ok 0.0:error-80:0", "rounds 100 -> ok 13", "state -> ok 1")
	writes := func(n int) string {
		return "program a updates; push 0; set 0; push 1; get 0; write; get 0; push 1; add; dup; set 0; push " + strconv.Itoa(n) + "; less; if 2; halt -> ok"
	}
	// With one cell nothing shows how many writes there may be, so they are looked at with more.
	d = lines.New()
	talk(t, d, "config 33 1 1024 32 -> ok", writes(32), "call 0 a -> ok", "rounds 1000 -> ok 457", "deeds -> ok 0.0:committed:0")
	d = lines.New()
	talk(t, d, "config 33 1 1024 32 -> ok", writes(33), "call 0 a -> ok", "rounds 1000 -> ok 361", "deeds -> ok 0.0:error-70:0")
}

// P23.1: which lines the table has, by words that are too few, too many, or not as told.
func TestWords(t *testing.T) {
	name10, name11 := "abcdefgh-0", "abcdefgh-01"
	name16, name17 := "abcdefgh-0123456", "abcdefgh-01234567"
	wholes := map[string]bool{
		"0": true, "1": true, "10": true, "2147483647": true, "2147483648": false, "9999999999": false, "99999999999999999999": false, "00": false, "01": false,
		"-1": false, "-0": false, "+1": false, "1.5": false, "x": false, "nan": false, "a": false, "1\r": false, "1;": false, "é": false, "\x00": false,
	}
	xs := map[string]bool{
		"0": true, "-0": true, "-1": true, "nan": true, "inf": true, "-inf": true, "x3fe0000000000000": true, "9007199254740991": true, "9007199254740992": false,
		"x3ff0000000000000": false, "x3FE0000000000000": false, "01": false, "-00": false, "+1": false, "NaN": false, "1.5": false, "-": false, "x": false, "a": false, "1\r": false,
	}
	made := map[string]bool{
		"a": true, "a-": true, "z9": true, name10: true, name11: false, name16: false, name17: false, "A": false, "1a": false, "-a": false, "aB": false, "a_": false, "a.": false, "é": false, "a\r": false, "0": false,
	}
	called := map[string]bool{
		"a": true, "a-": true, name10: true, name11: true, name16: true, name17: false, "A": false, "1a": false, "-a": false, "a_": false, "é": false, "a\n": false, "0": false,
	}
	for _, c := range []struct {
		form string // WORD is the place of each of the words
		all  map[string]bool
	}{
		{"config WORD 1 1 1", wholes}, {"config 1 WORD 1 1", wholes}, {"config 1 1 WORD 1", wholes}, {"config 1 1 1 WORD", wholes},
		{"start WORD", xs}, {"start 1 WORD", xs}, {"start WORD 1", xs},
		{"program WORD reads;halt", made}, {"tree WORD 0 9", made}, {"table WORD 0 20", made}, {"deque WORD 0 9", made},
		{"tree a WORD 9", wholes}, {"tree a 0 WORD", wholes}, {"table a WORD 20", wholes}, {"table a 0 WORD", wholes}, {"deque a WORD 9", wholes}, {"deque a 0 WORD", wholes},
		{"call WORD a", wholes}, {"call 0 WORD", called}, {"call 0 WORD 5", called}, {"call 0 a WORD", xs}, {"call 0 a 1 WORD", xs}, {"call 0 a WORD 1", xs},
		{"run WORD", wholes}, {"run 0 WORD", wholes}, {"run WORD 0", wholes}, {"rounds WORD", wholes}, {"out WORD 0", wholes}, {"out 0 WORD", wholes},
	} {
		for word, is := range c.all {
			wantLine(t, strings.Replace(c.form, "WORD", word, 1), is)
		}
	}
	for _, word := range []string{"", " ", "\t", "#", "# state", "fly", "State", "STATE", "states", "stat", "state\n", "\nstate", "state\r", "state;", "state\x00", "ok", "0", "state;state"} {
		wantLine(t, word, false)
	}
}

// P23.1: how many words each line has.
func TestHowManyWords(t *testing.T) {
	for _, c := range []struct {
		line string
		most string // the line goes on with these words, and with no further one; with dots as often as may be
	}{
		{"config", "1 1 1 1"}, {"tree", "a 0 9"}, {"table", "a 0 20"}, {"deque", "a 0 9"}, {"rounds", "1"}, {"out", "0 0"},
		{"state", ""}, {"deeds", ""}, {"order", ""}, {"judge", ""}, {"again", ""},
	} {
		words := append([]string{c.line}, strings.Fields(c.most)...)
		for n := range words {
			wantLine(t, strings.Join(words[:n], " "), false)
		}
		wantLine(t, strings.Join(words, " "), true)
		wantLine(t, "\t "+strings.Join(words, " \t ")+" \t", true)
		for _, more := range []string{"0", "1", "a", "#", "# a remark"} {
			wantLine(t, strings.Join(words, " ")+" "+more, false)
		}
	}
	for line, is := range map[string]bool{
		"start": true, "start 1": true, "start" + strings.Repeat(" 1", 509): true,
		"run": true, "run 0": true, "run" + strings.Repeat(" 0", 510): true,
		"call": false, "call 0": false, "call 0 a": true, "call a": false, "call 0 a" + strings.Repeat(" 1", 500): true, "call a 0": false, "call 0 0 a": false,
		"program": false, "program a": false, "program a ": false, "program a\t ": false, "program a ;": true, "program a reads": true, "program a reads halt": true, "program reads;halt": false, "program a;reads;halt": false, "program a #": true, "program a \x00": true, "program a  é;;": true,
		"program reads; halt": false, "program reads halt": true, "program 1 reads": false,
	} {
		wantLine(t, line, is)
	}
}

// wantLine asks by the model, too, lest that one be wrong.
func wantLine(t *testing.T, line string, is bool) {
	t.Helper()
	if isLine(line) != is {
		t.Fatalf("the model has %q otherwise", line)
	}
	if answer, e := lines.New().Line(line); e != api.OK != !is || e != api.OK && (e != api.ErrLine || answer != "") {
		t.Errorf("Line(%q) = %q, %d; is it one: %t", line, answer, e, is)
	}
	want := api.OK
	switch words, _ := text.Split(line); {
	case !is && len(words) > 0 && words[0][0] != '#' && !strings.Contains(line, "\n"):
		want = api.ErrScript
	case strings.Contains(line, "\n"):
		return // in a text these are several lines
	}
	if _, e, _ := lines.Run(line); e != want {
		t.Errorf("Run(%q) tells %d, want %d", line, e, want)
	}
}

// P23.1: the bound counts bytes, of all lines.
func TestLongLines(t *testing.T) {
	d := lines.New()
	for _, c := range []struct{ line, answer string }{
		{"state", "ok 0"}, {"fly", none}, {"", none}, {"#", none}, {"run 0", "ok 0"}, {"start 1", "error 3"}, {"again", "ok"},
	} {
		for _, ahead := range []bool{true, false} {
			line := func(n int) string {
				blanks := strings.Repeat(" ", n-len(c.line))
				if ahead {
					return blanks + c.line
				}
				return c.line + blanks
			}
			wantAnswer(t, d, line(1023), c.answer)
			wantAnswer(t, d, line(1024), c.answer)
			for _, n := range []int{1025, 2048, 1 << 20} {
				if answer, e := d.Line(line(n)); answer != "" || e != api.ErrLong {
					t.Errorf("a line of %d bytes: %q, %d, want ErrLong", n, answer, e)
				}
			}
		}
	}
	long := strings.Repeat("é", 512)
	wantAnswer(t, d, long, none)
	if answer, e := d.Line(long + "e"); answer != "" || e != api.ErrLong {
		t.Errorf("a line of 1025 bytes: %q, %d, want ErrLong", answer, e)
	}
	many := "program a reads" + strings.Repeat("; dup", 200)
	wantAnswer(t, d, many+strings.Repeat(";", 1024-len(many)), "error 20 202")
	// What is too long has not been done.
	talk(t, d, "start 5 -> ok")
	if answer, e := d.Line("start 6" + strings.Repeat(" ", 1018)); answer != "" || e != api.ErrLong {
		t.Errorf("a line of 1025 bytes: %q, %d, want ErrLong", answer, e)
	}
	talk(t, d, "state -> ok 5")
}

// P23.1, R1: lines that were spoilt here and there are lines just if the table has them.
func TestSpoiltLines(t *testing.T) {
	r := rule(1)
	is := 0
	for range 30000 {
		line := []byte(thrownLine(&r))
		for range 1 + r.below(2) {
			at := r.below(len(line))
			switch c := oneOf(&r, []byte(" \t\n\r;#-0129azxAZ\x00\xff\xc3")...); r.below(3) {
			case 0:
				line[at] = c
			case 1:
				line = append(line[:at:at], append([]byte{c}, line[at:]...)...)
			default:
				line = append(line[:at:at], line[at+1:]...)
			}
			if len(line) == 0 {
				break
			}
		}
		s := string(line)
		answer, e := lines.New().Line(s)
		if isLine(s) != (e == api.OK) || e != api.OK && (e != api.ErrLine || answer != "") {
			t.Fatalf("Line(%q) = %q, %d", s, answer, e)
		}
		if e == api.OK {
			is++
			if want := newModel().line(s); answer != want {
				t.Fatalf("Line(%q) = %q, want %q", s, answer, want)
			}
		}
	}
	if is < 1000 || is > 29000 {
		t.Errorf("only one kind: %d", is)
	}
}

// The README's table has all lines; its example is what TestReadme looks at.
func TestReadmeNamesEachLine(t *testing.T) {
	b, err := os.ReadFile("../README.md")
	if err != nil {
		t.Fatal(err)
	}
	for _, word := range []string{"config", "start", "program", "tree", "table", "deque", "call", "run", "rounds", "state", "deeds", "out", "order", "judge", "again"} {
		if !strings.Contains(string(b), "`"+word) {
			t.Errorf("the README does not say what %q does", word)
		}
	}
}
