package history_test

import (
	"fmt"
	"math"
	"testing"

	"beadle/api"
)

// spoilBy changes one thing of one deed.
func spoilBy(by *rule, l []api.Deed) string {
	d := &l[by.below(len(l))]
	whole := []int{-2, -1, 0, 1, 2, 3, d.Mark + 1, d.Number + 1, d.Begun, d.Ended, 50, math.MinInt, math.MaxInt}[by.below(13)]
	x := of(odd[by.below(len(odd))])
	ways := []struct {
		what string
		do   func()
	}{
		{"Program", func() { d.Program = whole }},
		{"Tag", func() { d.Tag = whole }},
		{"Args", func() { d.Args = append(d.Args, x) }},
		{"Mark", func() { d.Mark = whole }},
		{"Number", func() { d.Number = whole }},
		{"Begun", func() { d.Begun = whole }},
		{"Ended", func() { d.Ended = whole }},
		{"How", func() { d.End.How = by.below(5) }},
		{"Code", func() { d.End.Code = whole }},
		{"E", func() { d.End.E = api.Errno(whole) }},
		{"none", func() { d.End = going }},
		{"Reads", func() { spoilTouches(by, &d.Reads, x) }},
		{"Writes", func() { spoilTouches(by, &d.Writes, x) }},
		{"Out", func() { spoilNumbers(by, &d.Out, x) }},
		{"two", func() { other := &l[by.below(len(l))]; *d, *other = *other, *d }},
		{"their marks", func() { other := &l[by.below(len(l))]; d.Mark, other.Mark = other.Mark, d.Mark }},
	}
	one := ways[by.below(len(ways))]
	one.do()
	return one.what
}

func spoilTouches(by *rule, l *[]api.Touch, x float64) {
	if n := len(*l); n > 0 {
		switch i := by.below(n); by.below(4) {
		case 0:
			(*l)[i].X = x
			return
		case 1:
			(*l)[i].Cell += by.below(3) - 1
			return
		case 2:
			*l = (*l)[:i]
			return
		}
	}
	*l = append(*l, at(by.below(3), x))
}

func spoilNumbers(by *rule, l *[]float64, x float64) {
	if n := len(*l); n > 0 {
		switch i := by.below(n); by.below(3) {
		case 0:
			(*l)[i] = x
			return
		case 1:
			*l = (*l)[:i]
			return
		}
	}
	*l = append(*l, x)
}

// P17.1 to P17.4: what engines did, with one thing or two of it changed, held against the model.
func TestSpoiltHistories(t *testing.T) {
	met := map[string]int{}
	for seed := range 1000 {
		by := rule(seed)
		s := setupBy(&by, 6)
		e := made(t, s)
		for range 1 + by.below(12) {
			e.Run(pieceBy(&by, by.below(4), s.Config.Threads))
		}
		if len(e.Deeds()) == 0 {
			continue
		}
		for range 40 {
			l := e.Deeds()
			what := spoilBy(&by, l)
			if by.below(4) == 0 {
				what += " and " + spoilBy(&by, l)
			}
			switch place := wantAsModel(t, fmt.Sprint("the history ", seed, ", spoilt ", what), s, l); {
			case place == -2:
				met["may not be"]++
			case place == -1:
				met["explained all the same"]++
			default:
				met["told"]++
			}
			if mayBe(l) && untimely(l) != -1 {
				met["not timely"]++
			}
			if t.Failed() {
				return
			}
		}
	}
	for _, want := range []string{"may not be", "explained all the same", "told", "not timely"} {
		if met[want] < 1000 {
			t.Errorf("%s: met %d times", want, met[want])
		}
	}
}
