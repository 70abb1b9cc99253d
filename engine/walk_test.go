package engine_test

import (
	"fmt"
	"math"
	"testing"

	"beadle/api"
)

// P16.1 to P16.6, P0.5: engines and their clones, stepped in long orders, one by one and by scripts, with threads that there are not; held against their models.
func TestWalks(t *testing.T) {
	met := map[string]int{}
	for seed := range 400 {
		by := rule(seed)
		w := &walker{by: &by, met: met, s: setupBy(&by, 6)}
		w.pairs[0] = pairOf(t, w.s)
		w.pairs[1], w.pairs[2] = w.pairs[0].clone(), pairOf(t, w.s)
		for range 400 {
			w.act(t, by.below(len(w.pairs)))
			if t.Failed() {
				t.Fatalf("the walk %d", seed)
			}
		}
		for i := range w.pairs {
			w.pairs[i].wantAlike(t, "at last")
			w.note(i)
		}
	}
	wants := []string{"refused", "nothing to do", "a step", "a script", "cloned", "over at last", "three ahead", "its round", "no such tag", "Ended 0", "Ended 1", "Ended 2", "Ended 3"}
	// Whoever has begun has done its first step, so nobody is found at it.
	for _, part := range []int{enrolling, stamping, reading, leaving, waiting, marking, updating, scanning, storing, publishing, passing, over} {
		wants = append(wants, fmt.Sprint("cloned in ", part))
	}
	for _, what := range wants {
		if met[what] < 20 {
			t.Errorf("%s was met %d times", what, met[what])
		}
	}
}

// walker is a walk: three engines of one setup.
type walker struct {
	by    *rule
	s     api.Setup
	pairs [3]pair
	met   map[string]int
}

func (w *walker) act(t *testing.T, i int) {
	t.Helper()
	switch k := w.by.below(24); {
	case k == 0:
		w.clone(t, i, w.by.below(len(w.pairs)))
	case k == 1:
		w.refuse(t, i)
	case k < 5:
		w.run(t, i)
	default:
		w.step(t, i, w.by.below(w.s.Config.Threads))
	}
	w.pairs[i].wantAlike(t, "a walk")
}

// clone puts a clone of the i-th in the place of the j-th, which may be the same.
func (w *walker) clone(t *testing.T, i, j int) {
	t.Helper()
	w.met["cloned"]++
	for _, p := range w.pairs[i].m.plays {
		w.met[fmt.Sprint("cloned in ", p.part)]++
	}
	w.pairs[j] = w.pairs[i].clone()
	w.pairs[j].wantAlike(t, "a clone")
}

func (w *walker) refuse(t *testing.T, i int) {
	t.Helper()
	n := w.s.Config.Threads
	thread := []int{-1, n, n + w.by.below(9), math.MinInt, math.MaxInt}[w.by.below(5)]
	if is, fault := w.pairs[i].e.Step(thread); is || fault != api.ErrThread {
		t.Errorf("Step(%d) of %d: %v, %d", thread, n, is, fault)
	}
	w.met["refused"]++
}

// run is a script of its own, with numbers that are to be folded, and stretches of one thread.
func (w *walker) run(t *testing.T, i int) {
	t.Helper()
	var script []int
	for range w.by.below(6) {
		script = append(script, times(1+w.by.below(8), w.by.below(50)-25)...)
	}
	want := 0
	for _, n := range script {
		if w.pairs[i].m.step(folded(n, w.s.Config.Threads)) {
			want++
		}
	}
	if n, fault := w.pairs[i].e.Run(script); n != want || fault != api.OK {
		t.Errorf("Run of %v: %d, %d, want %d", script, n, fault, want)
	}
	w.met["a script"]++
}

func (w *walker) step(t *testing.T, i, thread int) {
	t.Helper()
	p := w.pairs[i]
	count := p.e.Count()
	want := p.m.step(thread)
	if is, fault := p.e.Step(thread); is != want || fault != api.OK {
		t.Errorf("Step(%d) = %v, %d, want %v", thread, is, fault, want)
	}
	if p.e.Count() > count+1 {
		t.Errorf("Step(%d): %d accesses", thread, p.e.Count()-count)
	}
	w.met[map[bool]string{true: "a step", false: "nothing to do"}[want]]++
}

// note counts what was met.
func (w *walker) note(i int) {
	if w.pairs[i].e.Over() {
		w.met["over at last"]++
	}
	for _, p := range w.pairs[i].m.plays {
		w.met[fmt.Sprint("Ended ", p.d.End.How)]++
		if p.d.Ahead >= 3 {
			w.met["three ahead"]++
		}
		if p.d.To > p.d.From+3 {
			w.met["its round"]++
		}
		if p.d.Tag > api.Updates {
			w.met["no such tag"]++
		}
	}
}
