package text_test

import (
	"slices"
	"strings"
	"testing"
	"unsafe"

	"beadle/api"
	"beadle/text"
)

// wordsOf goes by bytes, from word to word.
func wordsOf(line string) []string {
	var words []string
	in := false
	for i := range len(line) {
		if line[i] == 32 || line[i] == 9 {
			in = false
			continue
		}
		if !in {
			words = append(words, "")
		}
		in = true
		words[len(words)-1] += line[i : i+1]
	}
	return words
}

func wantWords(t *testing.T, line string, want []string) []string {
	t.Helper()
	words, e := text.Split(line)
	if e != api.OK || !slices.Equal(words, want) {
		t.Errorf("Split(%q) = %q, %d, want %q", line, words, e, want)
	}
	return words
}

// P2.5
func TestSplitByExamples(t *testing.T) {
	for _, c := range []struct {
		line string
		want []string
	}{
		{"  set a  5", []string{"set", "a", "5"}}, {"", nil}, {" ", nil}, {"\t", nil}, {" \t \t", nil}, {"a", []string{"a"}}, {"a ", []string{"a"}}, {"\ta", []string{"a"}},
		{"a b", []string{"a", "b"}}, {"a\tb", []string{"a", "b"}}, {"a \t b\t", []string{"a", "b"}}, {"a\nb c\r", []string{"a\nb", "c\r"}}, {"\n", []string{"\n"}}, {"\r \n", []string{"\r", "\n"}},
		{"\x00 \x0b\x0c", []string{"\x00", "\x0b\x0c"}}, {"a\u00a0b\u2003c \u3000", []string{"a\u00a0b\u2003c", "\u3000"}}, {"\x85 \xa0", []string{"\x85", "\xa0"}},
		{"é \xe9 \xe2\x80 \xf0\x9f", []string{"é", "\xe9", "\xe2\x80", "\xf0\x9f"}}, {"\ufffd \xff\xfe", []string{"\ufffd", "\xff\xfe"}}, {"aa aa", []string{"aa", "aa"}},
	} {
		wantWords(t, c.line, c.want)
	}
}

// P2.5: each byte beside a word's.
func TestSplitAtEachByte(t *testing.T) {
	for i := range 256 {
		c := string([]byte{byte(i)})
		want := []string{"a" + c + "b"}
		if i == 32 || i == 9 {
			want = []string{"a", "b"}
		}
		wantWords(t, "a"+c+"b", want)
	}
}

// P2.5: the bound counts bytes, of all lines, also such without a word.
func TestSplitByLength(t *testing.T) {
	wantWords(t, strings.Repeat("a", 1024), []string{strings.Repeat("a", 1024)})
	wantWords(t, strings.Repeat(" ", 1024), nil)
	wantWords(t, strings.Repeat("é", 512), []string{strings.Repeat("é", 512)})
	wantWords(t, strings.Repeat("a ", 512), slices.Repeat([]string{"a"}, 512))
	for _, line := range []string{strings.Repeat("a", 1025), strings.Repeat(" ", 1025), strings.Repeat("é", 513), strings.Repeat("a ", 512) + " ", strings.Repeat("a", 1<<20)} {
		if words, e := text.Split(line); len(words) != 0 || e != api.ErrLong {
			t.Errorf("Split of %d bytes: %d words, %d", len(line), len(words), e)
		}
	}
}

// P2.5, P2.8: all lines of six letters.
func TestSplitOfShortLines(t *testing.T) {
	each(" \ta\n\xff\xc3", 6, func(line string) {
		words := wantWords(t, line, wordsOf(line))
		for _, w := range words {
			if w == "" || strings.ContainsAny(w, " \t") {
				t.Errorf("Split(%q) has the word %q", line, w)
			}
		}
		wantWords(t, strings.Join(words, " "), words)
	})
}

func wantLines(t *testing.T, s string, want []string) []string {
	t.Helper()
	lines := text.Lines(s)
	if !slices.Equal(lines, want) {
		t.Errorf("Lines(%q) = %q, want %q", s, lines, want)
	}
	return lines
}

// P2.6
func TestLinesByExamples(t *testing.T) {
	for _, c := range []struct {
		s    string
		want []string
	}{
		{"", nil}, {"a", []string{"a"}}, {"a\n", []string{"a"}}, {"a\n\nb", []string{"a", "", "b"}}, {"\n", []string{""}}, {"\n\n", []string{"", ""}}, {"a\n\n", []string{"a", ""}},
		{"\na", []string{"", "a"}}, {"a\nb", []string{"a", "b"}}, {"a\r\nb\r", []string{"a\r", "b\r"}}, {"\r", []string{"\r"}}, {" \n\t", []string{" ", "\t"}}, {"a b\tc\n", []string{"a b\tc"}},
		{"\u2028\u0085\x0b\x0c\x00", []string{"\u2028\u0085\x0b\x0c\x00"}}, {"é\n\xc3\n\xe2\x80\nx", []string{"é", "\xc3", "\xe2\x80", "x"}},
	} {
		wantLines(t, c.s, c.want)
	}
}

// P2.6, P2.8: all texts of six letters; the lines, each with its end, are the text.
func TestLinesOfShortTexts(t *testing.T) {
	each("\na\r \xff\xc3", 6, func(s string) {
		want := strings.Split(s, "\n")
		if want[len(want)-1] == "" {
			want = want[:len(want)-1]
		}
		together := ""
		for _, l := range wantLines(t, s, want) {
			if strings.Contains(l, "\n") {
				t.Errorf("Lines(%q) has the line %q", s, l)
			}
			together += l + "\n"
		}
		if together != s && together != s+"\n" {
			t.Errorf("the lines of %q, put together, are %q", s, together)
		}
	})
}

// P2.6: however long the text is, and its lines.
func TestLinesOfLongTexts(t *testing.T) {
	long := strings.Repeat("b", 1<<20)
	wantLines(t, long, []string{long})
	wantLines(t, "a\n"+long+"\n"+long+"\n", []string{"a", long, long})
	if lines := text.Lines(strings.Repeat("\n", 1<<20)); len(lines) != 1<<20 {
		t.Errorf("%d lines", len(lines))
	}
	wantLines(t, strings.Repeat("a\n", 3000), slices.Repeat([]string{"a"}, 3000))
}

// P2.5, P2.6 with R4: what is answered is the caller's own.
func TestListsAreTheCallersOwn(t *testing.T) {
	ask := map[string]func() []string{
		"Split": func() []string { l, _ := text.Split("set a 5"); return l },
		"Lines": func() []string { return text.Lines("set\na\n5") },
	}
	for name, f := range ask {
		one, two := f(), f()
		spare := one[:cap(one)]
		for i := range spare {
			spare[i] = "changed"
		}
		if want := []string{"set", "a", "5"}; !slices.Equal(two, want) || !slices.Equal(f(), want) {
			t.Errorf("%s sees what was done to its answer: %q, %q", name, two, f())
		}
	}
}

// within tells whether a piece lies in the memory of the whole.
func within(piece, whole string) bool {
	p, w := uintptr(unsafe.Pointer(unsafe.StringData(piece))), uintptr(unsafe.Pointer(unsafe.StringData(whole)))
	return p >= w && p < w+uintptr(len(whole))
}

// P2.5, P2.6 with R4: no answer shares memory with an argument.
func TestPiecesAreNewMemory(t *testing.T) {
	line, page := strings.Repeat("word ", 9), strings.Repeat("line\n", 9)+"end"
	words, _ := text.Split(line)
	for _, w := range words {
		if within(w, line) {
			t.Errorf("a word of %q lies within it", line)
		}
	}
	for _, l := range text.Lines(page) {
		if within(l, page) {
			t.Errorf("a line of %q lies within it", page)
		}
	}
}
