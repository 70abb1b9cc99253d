package lines

import (
	"strings"

	"beadle/api"
	"beadle/text"
)

// longest is how long a name may be where it is made: with what a tree's programs have behind it, it is a name still.
const longest = 10

// read is what a line does, or why it is none. Whoever reads a word that is not as told gives up with the error.
func read(line string) (does act, e api.Errno) {
	words, e := text.Split(line)
	if e != api.OK {
		return nil, e
	}
	defer func() {
		if told := recover(); told != nil {
			does, e = nil, told.(api.Errno)
		}
	}()
	r := &row{left: words}
	kind, is := kinds()[r.next()]
	mustBe(is)
	does = kind(r)
	mustBe(len(r.left) == 0)
	return does, api.OK
}

// mustBe gives up the line, unless it is right.
func mustBe(right bool) {
	if !right {
		panic(api.ErrLine)
	}
}

// row is the words of a line that are not read as yet.
type row struct {
	left []string
}

func (r *row) next() string {
	mustBe(len(r.left) > 0)
	word := r.left[0]
	r.left = r.left[1:]
	return word
}

func (r *row) whole() int {
	n, e := text.Whole(r.next())
	mustBe(e == api.OK)
	return n
}

func (r *row) name() string {
	word := r.next()
	mustBe(text.Name(word))
	return word
}

// madeName is the name of what the line makes.
func (r *row) madeName() string {
	name := r.name()
	mustBe(len(name) <= longest)
	return name
}

// wholes and numbers are all words that are left, be it none.
func (r *row) wholes() []int {
	var all []int
	for len(r.left) > 0 {
		all = append(all, r.whole())
	}
	return all
}

func (r *row) numbers() []float64 {
	var all []float64
	for len(r.left) > 0 {
		x, e := text.Parse(r.next())
		mustBe(e == api.OK)
		all = append(all, x)
	}
	return all
}

// text is what is left, which must be something; how wide the blanks are counts for nothing in it.
func (r *row) text() string {
	mustBe(len(r.left) > 0)
	all := strings.Join(r.left, " ")
	r.left = nil
	return all
}
