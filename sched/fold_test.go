package sched_test

import (
	"fmt"
	"math"
	"math/big"
	"slices"
	"testing"

	"beadle/api"
	"beadle/sched"
)

// notThreads are numbers of threads that may not be: 0 and those below it, those above MaxThreads, some that a narrower whole number would take for one that may be.
var notThreads = []int{
	0, -1, -2, -8, -9, math.MinInt8, math.MinInt32, math.MinInt, math.MinInt + 1,
	9, 10, 16, 255, 256, 257, 264, 1 << 16, 1<<16 + 1, 1 << 32, 1<<32 + 1, 1<<32 + 8, math.MaxInt32, math.MaxInt,
}

// spoil writes over a list and the spare room behind it.
func spoil(l []int) {
	l = l[:cap(l)]
	for i := range l {
		l[i] = -99
	}
}

func wantErrno(t *testing.T, what string, got, want api.Errno) {
	t.Helper()
	if got != want {
		t.Errorf("%s: %d, want %d", what, got, want)
	}
}

func wantFold(t *testing.T, what string, script []int, threads int, want ...int) {
	t.Helper()
	got, e := sched.Fold(script, threads)
	wantErrno(t, what, e, api.OK)
	if !slices.Equal(got, want) {
		t.Errorf("%s: %v, want %v", what, got, want)
	}
}

// wantNoFold: refused, with nothing told.
func wantNoFold(t *testing.T, what string, script []int, threads int, want api.Errno) {
	t.Helper()
	got, e := sched.Fold(script, threads)
	wantErrno(t, what, e, want)
	if len(got) != 0 {
		t.Errorf("%s: %d numbers", what, len(got))
	}
}

// The chapter's examples of Fold.
func TestExamplesOfFold(t *testing.T) {
	wantFold(t, "three numbers", []int{-1, 5, 0}, 3, 2, 2, 0)
	wantFold(t, "none", nil, 3)
	wantFold(t, "none, not nil", []int{}, 3)
	wantNoFold(t, "no threads", []int{1}, 0, api.ErrArg)
}

// P10.1: each number of threads that may be, and numbers about each edge.
func TestFoldAboutTheEdges(t *testing.T) {
	wantFold(t, "one thread", []int{-2, -1, 0, 1, 2}, 1, 0, 0, 0, 0, 0)
	wantFold(t, "two threads", []int{-3, -2, -1, 0, 1, 2, 3}, 2, 1, 0, 1, 0, 1, 0, 1)
	wantFold(t, "eight threads", []int{-9, -8, -7, -1, 0, 1, 7, 8, 9}, 8, 7, 0, 1, 7, 0, 1, 7, 0, 1)
	wantFold(t, "the least and the greatest of 3", []int{math.MinInt, math.MaxInt}, 3, 1, 1)
	wantFold(t, "the least and the greatest of 7", []int{math.MinInt, math.MaxInt}, 7, 6, 0)
	wantFold(t, "the least and the greatest of 8", []int{math.MinInt, math.MaxInt}, 8, 0, 7)
	wantFold(t, "the least and the greatest of 1", []int{math.MinInt, math.MaxInt}, 1, 0, 0)
}

// P10.1: the numbers about 0, about the powers of two and at both ends, against whole numbers without an end.
func TestFoldOfManyNumbers(t *testing.T) {
	var script []int
	for n := -100; n <= 100; n++ {
		script = append(script, n, math.MinInt+100+n, math.MaxInt-100+n)
		for bit := 7; bit < 63; bit++ {
			script = append(script, 1<<bit+n, -1<<bit+n)
		}
	}
	for threads := 1; threads <= api.MaxThreads; threads++ {
		var want []int
		for _, n := range script {
			rest := new(big.Int).Mod(big.NewInt(int64(n)), big.NewInt(int64(threads)))
			want = append(want, int(rest.Int64()))
		}
		wantFold(t, fmt.Sprint(threads, " threads"), script, threads, want...)
	}
}

// P10.1: what is a thread's number already stays.
func TestFoldOfThreads(t *testing.T) {
	for threads := 1; threads <= api.MaxThreads; threads++ {
		var script []int
		for n := range 3 * threads {
			script = append(script, n*5%threads)
		}
		wantFold(t, fmt.Sprint(threads, " threads"), script, threads, script...)
	}
}

// P10.1: the numbers of threads that may not be, whatever the script is.
func TestFoldOfThreadsThatMayNotBe(t *testing.T) {
	for _, threads := range notThreads {
		for _, script := range [][]int{nil, {}, {0}, {1}, {-1, 5, 0}, make([]int, api.MaxSteps)} {
			wantNoFold(t, fmt.Sprint(len(script), " numbers, ", threads, " threads"), script, threads, api.ErrArg)
		}
	}
}

// P10.1: a script at the limit, one past it, and far past it.
func TestFoldOfLongScripts(t *testing.T) {
	for _, threads := range []int{1, 3, 8} {
		for _, many := range []int{1, 2, api.MaxSteps - 1, api.MaxSteps} {
			var script, want []int
			for n := range many {
				script = append(script, n+threads)
				want = append(want, n%threads)
			}
			wantFold(t, fmt.Sprint(many, " numbers, ", threads, " threads"), script, threads, want...)
		}
		for _, many := range []int{api.MaxSteps + 1, api.MaxSteps + 2, 2 * api.MaxSteps, 1 << 20} {
			wantNoFold(t, fmt.Sprint(many, " numbers, ", threads, " threads"), make([]int, many), threads, api.ErrLong)
		}
	}
}

// P10.1, R2: where both errors apply, ErrArg is named first.
func TestFoldOfTwoErrors(t *testing.T) {
	for _, threads := range notThreads {
		wantNoFold(t, fmt.Sprint("too long, ", threads, " threads"), make([]int, api.MaxSteps+1), threads, api.ErrArg)
	}
}

// P10.1, R4: the script is left as it was, with the spare room behind it, and is not kept.
func TestFoldLeavesTheScript(t *testing.T) {
	room := []int{-1, 5, 0, 77, 78}
	script := room[:3]
	got, _ := sched.Fold(script, 3)
	if want := []int{-1, 5, 0, 77, 78}; !slices.Equal(room, want) {
		t.Errorf("the script and its room are %v, want %v", room, want)
	}
	spoil(script)
	if want := []int{2, 2, 0}; !slices.Equal(got, want) {
		t.Errorf("with the script spoilt: %v, want %v", got, want)
	}
}

// P10.1, R4: what is answered is the caller's own, spare room too, even where no number changes.
func TestFoldIsTheCallers(t *testing.T) {
	for _, script := range [][]int{{2, 1, 0}, {-1, 5, 0}, {}, {4}} {
		room := append(slices.Clone(script), 77, 78)
		was := slices.Clone(room)
		first, _ := sched.Fold(room[:len(script)], 3)
		second, _ := sched.Fold(room[:len(script)], 3)
		want := slices.Clone(second)
		spoil(first)
		if !slices.Equal(room, was) || !slices.Equal(second, want) {
			t.Errorf("with one answer of %v spoilt: the script %v, another answer %v", script, room, second)
		}
	}
}

// R5: the same arguments, the same answer, whatever was folded between.
func TestFoldAgain(t *testing.T) {
	for range 3 {
		wantFold(t, "of 3", []int{-1, 5, 0}, 3, 2, 2, 0)
		wantFold(t, "of 8", []int{-1, 5, 0}, 8, 7, 5, 0)
		wantNoFold(t, "of 9", []int{-1, 5, 0}, 9, api.ErrArg)
	}
}
