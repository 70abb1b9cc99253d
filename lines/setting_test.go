package lines_test

import (
	"fmt"
	"strings"
	"testing"

	"beadle/api"
	"beadle/code"
	"beadle/deque"
	"beadle/lines"
	"beadle/table"
	"beadle/tree"
)

// P23.1: config lays what it is told, whatever that is, and with it there are no numbers at first and no calls, but the programs still.
func TestConfig(t *testing.T) {
	d := lines.New()
	talk(t, d, "program a reads; push 7; emit; halt -> ok", "start 5 -> ok", "call 0 a -> ok", "call 3 a -> ok", "config 3 2 9 4 -> ok", "state -> ok 0 0 0", "rounds 9 -> ok 0", "deeds -> ok", "again -> ok", "call 1 a -> ok", "rounds 99 -> ok 7", "out 1 0 -> ok 7", "judge -> ok -1 -1 -1", "again -> ok")
	talk(t, d, "config 2 1 9 4 -> ok", "start 1 2 -> ok", "state -> ok 1 2", "again -> ok", "config 3 1 9 4 -> ok", "state -> ok 0 0 0", "again -> ok")
	for _, c := range []string{"0 1 1 1", "1 0 1 1", "1 1 0 1", "1 1 1 0", "257 1 1 1", "1 9 1 1", "1 1 1025 1", "1 1 1 33", "0 0 0 0", "2147483647 2147483647 2147483647 2147483647"} {
		talk(t, d, "config "+c+" -> ok")
		for _, maker := range making {
			talk(t, d, maker.line+" -> error 1")
		}
		talk(t, d, "start -> ok")
	}
	for _, c := range []string{"256 8 1024 32", "1 1 1 1"} {
		talk(t, d, "config "+c+" -> ok", "judge -> ok -1 -1 -1", "again -> ok")
	}
	talk(t, d, "config 1 8 1024 1 -> ok", "call 7 a -> ok", "rounds 2 -> ok 2", "again -> ok", "config 1 7 1 1 -> ok", "call 7 a -> ok", "state -> error 160", "config 1 8 1 1 -> ok", "call 7 a -> ok", "rounds 99 -> ok 6", "deeds -> ok 7.0:error-80:0")
	// The threads of another order of the four would be as many others.
	talk(t, lines.New(), "program a updates; push 0; push 0; write; push 0; push 1; write; halt -> ok", "config 4 3 6 1 -> ok", "call 2 a -> ok", "state -> ok 0 0 0 0", "run 2 2 2 2 2 2 2 2 2 2 -> ok 10", "deeds -> ok 2.0:error-70:0")
}

// P23.1: start lays all the numbers anew, however many they are; too many are the engine's matter.
func TestStart(t *testing.T) {
	d := lines.New()
	talk(t, d, "config 4 1 9 4 -> ok", "start 1 -0 nan x3fe0000000000000 -> ok", "state -> ok 1 -0 nan x3fe0000000000000", "again -> ok", "start -inf inf -> ok", "state -> ok -inf inf 0 0", "again -> ok",
		"start -> ok", "state -> ok 0 0 0 0", "again -> ok", "start 1 2 3 4 5 -> ok", "state -> error 1", "start 1 2 3 4 -> ok", "state -> ok 1 2 3 4", "start 9 -> error 3", "again -> ok", "state -> ok 1 2 3 4", "again -> ok")
	talk(t, d, "config 256 1 1 1 -> ok", "start"+strings.Repeat(" 1", 257)+" -> ok", "state -> error 1", "start"+strings.Repeat(" 1", 256)+" -> ok", "state -> ok"+strings.Repeat(" 1", 256))
}

// P23.1: program has any TEXT, cut at each `;`, the words of a piece with a blank between: a text of code's.
func TestProgramText(t *testing.T) {
	for _, c := range []struct{ text, answer, out string }{
		{"reads; push 5; emit; halt", "ok", "ok 5"},
		{"reads;push 5;emit;halt", "ok", "ok 5"},
		{"\t reads \t;\tpush\t \t5 ;  emit;halt \t", "ok", "ok 5"},
		{"reads; push -0; emit; push x3fe0000000000000; emit", "ok", "ok -0 x3fe0000000000000"},
		{"updates; push 3; jump 3; drop; emit", "ok", "ok 3"},
		{"reads; drop", "ok", "ok"},
		{";", "error 20 1", ""}, {";;;", "error 20 1", ""}, {"; reads; halt", "error 20 1", ""}, {"\t; reads; halt", "error 20 1", ""},
		{"reads", "error 20 2", ""}, {"updates", "error 20 2", ""}, {"reads;", "error 20 2", ""}, {"reads; ", "error 20 2", ""},
		{"reads; halt;", "error 20 3", ""}, {"reads; halt; ", "error 20 3", ""}, {"reads; ; halt", "error 20 2", ""}, {"reads;;halt", "error 20 2", ""},
		{"Reads; halt", "error 20 1", ""}, {"reads halt", "error 20 1", ""}, {"reads: halt", "error 20 1", ""}, {"é", "error 20 1", ""}, {"\xff; halt", "error 20 1", ""}, {"#", "error 20 1", ""}, {"0", "error 20 1", ""},
		{"reads; fly", "error 20 2", ""}, {"reads; halt; halt; halt; fly; fly", "error 20 5", ""}, {"reads; push", "error 20 2", ""}, {"reads; push 1 2", "error 20 2", ""}, {"reads; push 01", "error 20 2", ""},
		{"reads; halt 1", "error 20 2", ""}, {"reads; pick 64", "error 20 2", ""}, {"reads; abort 100", "error 20 2", ""}, {"reads; abort 99", "ok", "ok"}, {"reads; jump 1024", "error 20 2", ""},
		{"reads; jump 1", "error 50 2", ""}, {"reads; jump 0; push 1; call 7; if 9", "error 50 4", ""}, {"reads; jump 9; fly", "error 20 3", ""}, {"reads; halt; jump 1023", "error 50 3", ""},
		{"reads; pick 0; pick 1; emit", "ok", "ok"},
	} {
		d := lines.New()
		talk(t, d, "program a "+c.text+" -> "+c.answer)
		if c.answer != "ok" {
			talk(t, d, "call 0 a -> error 1")
			continue
		}
		talk(t, d, "call 0 a -> ok")
		d.Line("rounds 30")
		talk(t, d, "rounds 1 -> ok 0", "out 0 0 -> "+c.out, "judge -> ok -1 -1 -1")
	}
}

// P23.1: a line is long enough for a program of many instructions, and each error tells its line.
func TestProgramLines(t *testing.T) {
	for n := 1; n <= 200; n++ {
		d := lines.New()
		talk(t, d, "program a reads"+strings.Repeat(";dup", n)+";fly -> error 20 "+fmt.Sprint(n+2), "program a reads"+strings.Repeat(";dup", n)+fmt.Sprintf(";jump %d", n+1)+" -> error 50 "+fmt.Sprint(n+2), "program a reads"+strings.Repeat(";dup", n)+fmt.Sprintf(";jump %d", n)+" -> ok")
	}
}

// P23.1: the names of what tree, table and deque make: each means the program that Make tells.
func TestStructureNames(t *testing.T) {
	tr, _ := tree.Make(3, 20)
	ta, _ := table.Make(3, 20)
	de, _ := deque.Make(3, 20)
	for kind, programs := range map[string]map[string]api.Program{
		"tree":  {"get": tr.Get, "put": tr.Put, "del": tr.Del, "least": tr.Least, "after": tr.After, "len": tr.Len, "all": tr.All},
		"table": {"get": ta.Get, "put": ta.Put, "del": ta.Del, "len": ta.Len, "all": ta.All},
		"deque": {"pf": de.PushFront, "pb": de.PushBack, "of": de.PopFront, "ob": de.PopBack, "at": de.At, "len": de.Len, "all": de.All},
	} {
		for _, name := range []string{"a", "abcdefgh-0", "a-"} {
			d := lines.New()
			talk(t, d, kind+" "+name+" 3 20 -> ok", "call 0 "+name+" -> error 1")
			for _, end := range []string{"get", "put", "del", "least", "after", "len", "all", "pf", "pb", "of", "ob", "at", "", "make", "push"} {
				want := "ok"
				if _, has := programs[end]; !has {
					want = "error 1"
				}
				talk(t, d, "call 0 "+name+"-"+end+" -> "+want)
			}
		}
		for end, p := range programs {
			wantSame(t, kind+" a 3 20", "a-"+end, p)
		}
	}
}

// wantSame looks whether a name means a program: transactions of it do what those do that are told as that program's text, over numbers and arguments of all sorts. What is too long for a line is cut into what an engine tells.
func wantSame(t *testing.T, made, name string, p api.Program) {
	t.Helper()
	if code.Check(p) != api.OK {
		t.Fatalf("%s may not be", name)
	}
	w := told(t, "config 23 1 1024 8", made)
	w.m.names[name] = len(w.m.s.Programs)
	w.m.s.Programs = append(w.m.s.Programs, p)
	for _, args := range []string{"", " 1", " 1 2", " -0 5", " 0", " nan 7"} {
		w.tell("call 0 " + name + args)
	}
	for range 10 {
		w.tell("rounds 1000")
	}
	w.tell("deeds", "state", "judge")
	for i := range 6 {
		w.tell(fmt.Sprint("out 0 ", i))
	}
}

// P23.1: tree, table and deque lie where Make takes them, and nowhere else.
func TestStructurePlaces(t *testing.T) {
	places := []int{0, 1, 2, 3, 4, 5, 6, 7, 8, 9, 10, 11, 12, 20, 100, 200, 235, 236, 240, 244, 245, 246, 247, 248, 249, 250, 251, 252, 253, 254, 255, 256, 257, 1024, 1<<31 - 257, 1<<31 - 1}
	for _, base := range places {
		for _, cells := range places {
			want := func(room int) string {
				if room == 0 || base+cells > 256 {
					return fmt.Sprintf("%d %d -> error 200", base, cells)
				}
				return fmt.Sprintf("%d %d -> ok", base, cells)
			}
			d := lines.New()
			talk(t, d, "tree a "+want(tree.Room(cells)), "table b "+want(table.Room(cells)), "deque c "+want(deque.Room(cells)))
		}
	}
	// Where it lies is seen by what it writes.
	for _, base := range []int{0, 4, 7} {
		w := told(t, "config 12 1 1024 8", fmt.Sprintf("deque q %d 5", base), "call 0 q-pb 9", "rounds 300", "deeds", "out 0 0")
		state, _ := w.d.Line("state")
		for cell, x := range strings.Fields(state)[1:] {
			if x != "0" && (cell < base || cell >= base+5) {
				t.Errorf("a deque in the cells from %d on has written %s", base, state)
			}
		}
		if !strings.Contains(state, "9") {
			t.Errorf("a deque in the cells from %d on has written %s", base, state)
		}
	}
}

// P23.1: MaxPrograms programs and one more, by each of the lines that make some; a name that is there already makes them no fewer.
func TestManyPrograms(t *testing.T) {
	for _, c := range []struct {
		line string
		n    int
	}{{"program a reads; halt", 1}, {"tree a 0 7", 7}, {"table a 0 11", 5}, {"deque a 0 3", 7}} {
		for before := 55; before <= 64; before++ {
			d := lines.New()
			for range before {
				talk(t, d, "program p reads; push 1; emit; halt -> ok")
			}
			if before+c.n > 64 {
				talk(t, d, c.line+" -> error 160", c.line+" -> error 160", "call 0 a -> error 1", "call 0 a-len -> error 1")
				// What was refused has left no program behind.
				for range 64 - before {
					talk(t, d, "program b reads; push 2; emit; halt -> ok")
				}
				talk(t, d, "program b reads; push 3; emit; halt -> error 160", "call 0 p -> ok", "rounds 20 -> ok 7", "out 0 0 -> ok 1")
				continue
			}
			talk(t, d, c.line+" -> ok")
			for range 64 - before - c.n {
				talk(t, d, "program b reads; halt -> ok")
			}
			talk(t, d, "program b reads; halt -> error 160", "state -> ok 0", "again -> ok", "config 1 1 1 1 -> ok", "program b reads; halt -> error 160", "tree b 0 7 -> error 160", "table b 0 11 -> error 160", "deque b 0 3 -> error 160")
			// What is wrong with the text, or with the place, is said first.
			talk(t, d, "program b reads; fly -> error 20 2", "program b reads; jump 1 -> error 50 2", "tree b 0 6 -> error 200", "table b 0 10 -> error 200", "deque b 0 2 -> error 200")
		}
	}
}

// P23.1: a name that is there already means the new program; calls that were told ahead of that mean the one of then.
func TestNameAgain(t *testing.T) {
	d := lines.New()
	talk(t, d, "config 20 2 1024 8 -> ok", "program a reads; push 1; emit; halt -> ok", "call 0 a -> ok", "program a reads; push 2; emit; halt -> ok", "call 0 a -> ok", "call 1 a -> ok", "program a reads; fly -> error 20 2", "call 1 a -> ok", "program a updates; push 3; emit; abort 4 -> ok", "call 1 a -> ok", "rounds 100 -> ok 35",
		"out 0 0 -> ok 1", "out 0 1 -> ok 2", "out 1 0 -> ok 2", "out 1 1 -> ok 2", "out 1 2 -> ok 3", "deeds -> ok 0.0:committed:0 1.0:committed:0 0.1:committed:0 1.1:committed:0 1.2:abort-4:0", "judge -> ok -1 -1 -1")
	// So do the names that a structure makes, and such names as if by a structure are names like any; the others stay.
	w := told(t, "config 20 1 1024 8", "deque q 0 3", "call 0 q-pb 5", "call 0 q-len", "program q-len reads; push 9; emit; halt", "call 0 q-len", "table q 5 11", "call 0 q-len", "call 0 q-pb 6", "call 0 q-at 0", "rounds 999")
	talk(t, w.d, "deeds -> ok 0.0:committed:0 0.1:committed:1 0.2:committed:1 0.3:committed:1 0.4:abort-1:1 0.5:committed:1", "out 0 0 -> ok 1", "out 0 1 -> ok 1", "out 0 2 -> ok 9", "out 0 3 -> ok 0", "out 0 4 -> ok", "out 0 5 -> ok 5")
}

// P23.1: call looks at T first, then at the NAME; how many Args and calls there may be is the engine's matter.
func TestCall(t *testing.T) {
	d := lines.New()
	talk(t, d, "call 0 a -> error 1", "call 7 a -> error 1", "call 8 a -> error 100", "program a reads; arg 0; emit; arg 1; emit; arg 7; emit; halt -> ok", "call 8 a -> error 100", "call 2147483647 a -> error 100", "call 8 b -> error 100", "call 7 b -> error 1", "state -> ok 0", "again -> ok")
	// A call of a thread ahead of which there are no lists lays them, too: none of those that were refused did.
	talk(t, d, "config 1 3 99 1 -> ok", "call 2 a 1 -0 3 4 5 6 7 nan -> ok", "call 0 a 5 -> ok", "call 2 a -> ok", "run 2 1 1 0 0 2 -> ok 4", "rounds 50 -> ok 29", "deeds -> ok 2.0:committed:0 0.0:committed:0 2.1:committed:0", "out 2 0 -> ok 1 -0 nan", "out 0 0 -> ok 5 0 0", "out 2 1 -> ok 0 0 0", "out 1 0 -> error 100", "judge -> ok -1 -1 -1", "again -> ok")
	talk(t, d, "config 1 3 99 1 -> ok", "call 3 a -> ok", "run -> error 160", "config 1 3 99 1 -> ok", "call 0 a 1 2 3 4 5 6 7 8 -> ok", "run -> ok 0", "again -> ok", "call 0 a 1 2 3 4 5 6 7 8 9 -> ok", "run -> error 1", "out 9 9 -> error 1", "call 0 a -> ok")
	talk(t, d, "config 1 1 99 1 -> ok")
	for range 64 {
		talk(t, d, "call 0 a -> ok")
	}
	talk(t, d, "rounds 1000 -> ok 704", "again -> ok", "call 0 a -> ok", "rounds 1 -> error 160")
	// More lists than threads are told ahead of too many Args.
	talk(t, d, "config 1 1 99 1 -> ok", "call 1 a 1 2 3 4 5 6 7 8 9 -> ok", "state -> error 160", "config 0 1 99 1 -> ok", "call 1 a 1 2 3 4 5 6 7 8 9 -> ok", "state -> error 1")
}
