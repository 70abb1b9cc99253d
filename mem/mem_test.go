package mem_test

import (
	"math"
	"slices"
	"testing"

	"beadle/api"
	"beadle/mem"
)

const greatest = math.MaxUint64

func make4(t *testing.T) *mem.Mem {
	t.Helper()
	return sized(t, 4)
}

func sized(t *testing.T, words int) *mem.Mem {
	t.Helper()
	m, e := mem.New(words)
	if m == nil || e != api.OK {
		t.Fatalf("New(%d) = %v, %d", words, m, e)
	}
	return m
}

func want(t *testing.T, what string, got, right api.Errno) {
	t.Helper()
	if got != right {
		t.Errorf("%s = %d, want %d", what, got, right)
	}
}

func wantTold(t *testing.T, what string, got uint64, e api.Errno, right uint64, rightE api.Errno) {
	t.Helper()
	if got != right || e != rightE {
		t.Errorf("%s = %d, %d, want %d, %d", what, got, e, right, rightE)
	}
}

// wantLike holds all that can be asked without a change against what it should be; whether m is open, a clone tells.
func wantLike(t *testing.T, what string, m *mem.Mem, words []uint64, open bool, count int) {
	t.Helper()
	if all := m.All(); !slices.Equal(all, words) {
		t.Errorf("%s: All = %d, want %d", what, all, words)
	}
	if m.Count() != count || m.Len() != len(words) {
		t.Errorf("%s: Count %d, Len %d, want %d, %d", what, m.Count(), m.Len(), count, len(words))
	}
	for at, right := range words {
		v, e := m.Peek(at)
		wantTold(t, what+": Peek", v, e, right, api.OK)
	}
	v, e := m.Clone().Load(0)
	if open {
		wantTold(t, what+": Load of a clone", v, e, words[0], api.OK)
	} else {
		wantTold(t, what+": Load of a clone", v, e, 0, api.ErrSpent)
	}
}

// P3.1
func TestNewOfEachSize(t *testing.T) {
	for _, n := range []int{1, 2, 3, 779, 4095, 4096} {
		wantLike(t, "New", sized(t, n), make([]uint64, n), false, 0)
	}
}

// P3.1: no size.
func TestNewOfNoSize(t *testing.T) {
	for _, n := range []int{0, -1, -4096, 4097, 4098, 1 << 31, math.MaxInt, math.MinInt} {
		if m, e := mem.New(n); m != nil || e != api.ErrArg {
			t.Errorf("New(%d) = %v, %d", n, m, e)
		}
	}
}

// P3.1, R5: what is done to one memory, another one does not see.
func TestNewAreUnlike(t *testing.T) {
	a, b := make4(t), make4(t)
	a.Open()
	want(t, "Store", a.Store(2, 9), api.OK)
	wantLike(t, "the other", b, []uint64{0, 0, 0, 0}, false, 0)
	wantLike(t, "a third", make4(t), []uint64{0, 0, 0, 0}, false, 0)
}

// P3.2: once or often, one access.
func TestOpenLetsOneBy(t *testing.T) {
	for opens := range 4 {
		m := make4(t)
		for range opens {
			m.Open()
		}
		wantLike(t, "opened", m, []uint64{0, 0, 0, 0}, opens > 0, 0)
		ok := 0
		for range 5 {
			if _, e := m.Add(1, 1); e == api.OK {
				ok++
			}
		}
		right := min(opens, 1)
		if ok != right {
			t.Errorf("%d accesses behind %d of Open", ok, opens)
		}
		wantLike(t, "spent", m, []uint64{0, uint64(right), 0, 0}, false, right)
	}
}

// P3.2, P3.5: each step anew, and all are counted.
func TestOpenAgainAndAgain(t *testing.T) {
	m := make4(t)
	for i := range 1000 {
		m.Open()
		v, e := m.Add(3, 2)
		wantTold(t, "Add", v, e, uint64(2*i), api.OK)
		want(t, "a second one", m.Store(3, 0), api.ErrSpent)
	}
	wantLike(t, "at last", m, []uint64{0, 0, 0, 2000}, false, 1000)
}

// P3.3: each of the three at each place, open or not.
func TestAccessAtEachPlace(t *testing.T) {
	for _, n := range []int{1, 2, 4, 4096} {
		for _, at := range []int{math.MinInt, -4096, -2, -1, 0, 1, n - 2, n - 1, n, n + 1, 4097, 1 << 31, 1 << 32, math.MaxInt} {
			for _, open := range []bool{false, true} {
				accessAt(t, n, at, open)
			}
		}
	}
}

func accessAt(t *testing.T, n, at int, open bool) {
	t.Helper()
	there := at >= 0 && at < n
	right := api.OK
	if !there {
		right = api.ErrPlace
	} else if !open {
		right = api.ErrSpent
	}
	for kind := range 3 {
		m := sized(t, n)
		words := make([]uint64, n)
		for i := range n {
			words[i] = uint64(100 + i)
			want(t, "Poke", m.Poke(i, words[i]), api.OK)
		}
		if open {
			m.Open()
		}
		var told, was uint64
		var e api.Errno
		switch kind {
		case 0:
			told, e = m.Load(at)
		case 1:
			e = m.Store(at, 7)
		case 2:
			told, e = m.Add(at, 9)
		}
		count := 0
		if right == api.OK {
			count = 1
			if kind != 1 {
				was = words[at]
			}
			words[at] = [3]uint64{words[at], 7, words[at] + 9}[kind]
		}
		wantTold(t, "an access", told, e, was, right)
		wantLike(t, "behind an access", m, words, open && right != api.OK, count)
	}
}

// P3.3: a wrong place is told ahead of a spent access, and spends none.
func TestWrongPlaceSpendsNothing(t *testing.T) {
	m := make4(t)
	for _, at := range []int{-1, 4} {
		v, e := m.Load(at)
		wantTold(t, "Load", v, e, 0, api.ErrPlace)
		want(t, "Store", m.Store(at, 1), api.ErrPlace)
		v, e = m.Add(at, 1)
		wantTold(t, "Add", v, e, 0, api.ErrPlace)
	}
	wantLike(t, "not open", m, []uint64{0, 0, 0, 0}, false, 0)
	m.Open()
	for _, at := range []int{-1, 4, 9} {
		_, e := m.Load(at)
		want(t, "Load", e, api.ErrPlace)
		want(t, "Store", m.Store(at, 1), api.ErrPlace)
		_, e = m.Add(at, 1)
		want(t, "Add", e, api.ErrPlace)
	}
	wantLike(t, "still open", m, []uint64{0, 0, 0, 0}, true, 0)
	want(t, "Store", m.Store(0, 1), api.OK)
	wantLike(t, "at last", m, []uint64{1, 0, 0, 0}, false, 1)
}

// P3.3: whichever access comes first spends it for whichever comes next.
func TestEachSpendsForEach(t *testing.T) {
	acts := []func(m *mem.Mem) (uint64, api.Errno){
		func(m *mem.Mem) (uint64, api.Errno) { return m.Load(0) },
		func(m *mem.Mem) (uint64, api.Errno) { return 0, m.Store(0, 5) },
		func(m *mem.Mem) (uint64, api.Errno) { return m.Add(0, 2) },
	}
	left := []uint64{3, 5, 5}
	for i, first := range acts {
		for _, next := range acts {
			m := sized(t, 1)
			want(t, "Poke", m.Poke(0, 3), api.OK)
			m.Open()
			_, e := first(m)
			want(t, "the first", e, api.OK)
			v, e := next(m)
			wantTold(t, "the next", v, e, 0, api.ErrSpent)
			wantLike(t, "behind both", m, []uint64{left[i]}, false, 1)
		}
	}
}

// P3.3: Add goes round at 2^64 and tells what was; all 64 bits of a word are kept.
func TestWordsAreOf64Bits(t *testing.T) {
	for _, c := range []struct{ was, n, is uint64 }{
		{0, 0, 0}, {0, 1, 1}, {7, greatest, 6}, {greatest, 1, 0}, {greatest, 0, greatest}, {greatest, greatest, greatest - 1}, {1 << 63, 1 << 63, 0}, {1<<63 - 1, 1, 1 << 63}, {1<<32 - 1, 1, 1 << 32}, {1<<53 - 1, 2, 1<<53 + 1}, {0, 1<<63 | 1, 1<<63 | 1}, {0x7ff0000000000000, 1, 0x7ff0000000000001},
	} {
		m := sized(t, 2)
		m.Open()
		want(t, "Store", m.Store(1, c.was), api.OK)
		m.Open()
		v, e := m.Add(1, c.n)
		wantTold(t, "Add", v, e, c.was, api.OK)
		m.Open()
		v, e = m.Load(1)
		wantTold(t, "Load", v, e, c.is, api.OK)
		wantLike(t, "at last", m, []uint64{0, c.is}, false, 3)
	}
}

// P3.4: open or not, and no access.
func TestPeekAndPoke(t *testing.T) {
	for _, open := range []bool{false, true} {
		m := make4(t)
		if open {
			m.Open()
		}
		words := make([]uint64, 4)
		for _, at := range []int{0, 1, 3} {
			words[at] = greatest - uint64(at)
			want(t, "Poke", m.Poke(at, words[at]), api.OK)
			wantLike(t, "behind Poke", m, words, open, 0)
		}
		for _, at := range []int{math.MinInt, -4, -1, 4, 5, 4096, 1 << 32, math.MaxInt} {
			v, e := m.Peek(at)
			wantTold(t, "Peek", v, e, 0, api.ErrPlace)
			want(t, "Poke", m.Poke(at, 8), api.ErrPlace)
			wantLike(t, "behind a wrong place", m, words, open, 0)
		}
	}
}

// P3.5, R4: All is the caller's own, its spare room too.
func TestAllIsTheCallersOwn(t *testing.T) {
	m := make4(t)
	want(t, "Poke", m.Poke(2, 6), api.OK)
	a, b := m.All(), m.All()
	spoil(a)
	if !slices.Equal(b, []uint64{0, 0, 6, 0}) {
		t.Errorf("the other answer is %d", b)
	}
	wantLike(t, "behind a change of All", m, []uint64{0, 0, 6, 0}, false, 0)
	want(t, "Poke", m.Poke(0, 1), api.OK)
	m.Open()
	want(t, "Store", m.Store(3, 2), api.OK)
	if !slices.Equal(b, []uint64{0, 0, 6, 0}) {
		t.Errorf("behind Poke and Store the answer is %d", b)
	}
	wantLike(t, "at last", m, []uint64{1, 0, 6, 2}, false, 1)
}

func spoil(l []uint64) {
	l = l[:cap(l)]
	for i := range l {
		l[i] = 77
	}
}

// P3.5, R5: neither sees what is done to the other.
func TestCloneIsAnother(t *testing.T) {
	m := make4(t)
	m.Open()
	want(t, "Store", m.Store(1, 5), api.OK)
	m.Open()
	c, d := m.Clone(), m.Clone()
	wantLike(t, "a clone", c, []uint64{0, 5, 0, 0}, true, 1)
	v, e := c.Add(1, 3)
	wantTold(t, "Add of a clone", v, e, 5, api.OK)
	want(t, "Poke of a clone", c.Poke(0, 9), api.OK)
	spoil(c.All())
	wantLike(t, "this one", m, []uint64{0, 5, 0, 0}, true, 1)
	want(t, "Store", m.Store(3, 4), api.OK)
	want(t, "Poke", m.Poke(2, 2), api.OK)
	wantLike(t, "this one", m, []uint64{0, 5, 2, 4}, false, 2)
	wantLike(t, "the clone", c, []uint64{9, 8, 0, 0}, false, 2)
	wantLike(t, "the other clone", d, []uint64{0, 5, 0, 0}, true, 1)
	c.Open()
	wantLike(t, "this one", m, []uint64{0, 5, 2, 4}, false, 2)
	m.Clone().Open()
	wantLike(t, "behind Open of a new clone", m, []uint64{0, 5, 2, 4}, false, 2)
}

// P3.5: a clone of a clone, and of one that is not open.
func TestCloneOfAClone(t *testing.T) {
	m := sized(t, 4096)
	words := make([]uint64, 4096)
	words[4095] = greatest
	want(t, "Poke", m.Poke(4095, greatest), api.OK)
	wantLike(t, "a clone", m.Clone(), words, false, 0)
	wantLike(t, "a clone's clone", m.Clone().Clone(), words, false, 0)
	m.Open()
	wantLike(t, "a clone's clone", m.Clone().Clone(), words, true, 0)
}

// P3.1 to P3.5: the chapter's rows, in their order, on one memory.
func TestMemByExamples(t *testing.T) {
	m := make4(t)
	for at, right := range map[int]api.Errno{0: api.ErrSpent, 4: api.ErrPlace, -1: api.ErrPlace} {
		v, e := m.Load(at)
		wantTold(t, "Load", v, e, 0, right)
	}
	m.Open()
	want(t, "Store(9, 1)", m.Store(9, 1), api.ErrPlace)
	want(t, "Store(1, 7)", m.Store(1, 7), api.OK)
	v, e := m.Load(1)
	wantTold(t, "Load(1)", v, e, 0, api.ErrSpent)
	wantLike(t, "the second row", m, []uint64{0, 7, 0, 0}, false, 1)
	m.Open()
	m.Open()
	v, e = m.Add(1, greatest)
	wantTold(t, "Add(1, 2^64 - 1)", v, e, 7, api.OK)
	v, e = m.Add(1, 1)
	wantTold(t, "Add(1, 1)", v, e, 0, api.ErrSpent)
	v, e = m.Peek(1)
	wantTold(t, "Peek(1)", v, e, 6, api.OK)
	want(t, "Poke(3, 5)", m.Poke(3, 5), api.OK)
	wantLike(t, "the fourth row", m, []uint64{0, 6, 0, 5}, false, 2)
}
