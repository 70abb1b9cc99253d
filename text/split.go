package text

import "beadle/api"

// Split is a line's words. Going by runes finds the bytes 32 and 9 all the same: a rune of several bytes has neither, and a byte that is no rune goes by itself.
func Split(line string) ([]string, api.Errno) {
	if len(line) > api.MaxLine {
		return nil, api.ErrLong
	}
	var words []string
	start := 0
	for i, r := range line {
		if r == ' ' || r == '\t' {
			words = addWord(words, line[start:i])
			start = i + 1
		}
	}
	return addWord(words, line[start:]), api.OK
}

// addWord leaves out what lies between two blanks side by side.
func addWord(words []string, word string) []string {
	if word == "" {
		return words
	}
	return append(words, own(word))
}

// Lines is a text's lines.
func Lines(text string) []string {
	var lines []string
	start := 0
	for i, r := range text {
		if r == '\n' {
			lines = append(lines, own(text[start:i]))
			start = i + 1
		}
	}
	if start < len(text) {
		lines = append(lines, own(text[start:]))
	}
	return lines
}

// own copies a piece of an argument, whose memory an answer may not share.
func own(piece string) string { return string([]byte(piece)) }
