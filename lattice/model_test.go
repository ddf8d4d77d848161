package lattice_test

import (
	"math"
	"math/bits"
	"math/rand/v2"
	"slices"
	"testing"

	"blazon/api"
	"blazon/lattice"
	"blazon/order"
)

// A model is what the chapter says of an order: it asks of two elements whether one is at most the other, and nothing else.
type model struct {
	n            int
	most         [64][64]bool
	joins, meets [64][64]int
}

func modelOf(o *order.Order) *model {
	m := &model{n: o.Len()}
	for a := range m.n {
		for b := range m.n {
			m.most[a][b] = o.Most(a, b)
		}
	}
	for a := range m.n {
		for b := range m.n {
			m.joins[a][b] = m.least(func(c int) bool { return m.most[a][c] && m.most[b][c] }, func(c, d int) bool { return m.most[c][d] })
			m.meets[a][b] = m.least(func(c int) bool { return m.most[c][a] && m.most[c][b] }, func(c, d int) bool { return m.most[d][c] })
		}
	}
	return m
}

// least is that one of some elements that goes ahead of each of them.
func (m *model) least(in func(c int) bool, ahead func(c, d int) bool) int {
	for c := range m.n {
		ok := in(c)
		for d := range m.n {
			ok = ok && (!in(d) || ahead(c, d))
		}
		if ok {
			return c
		}
	}
	return -1
}

// made is what New answers of it.
func (m *model) made() (a, b int, e api.Errno) {
	if m.n == 0 {
		return 0, 0, api.ErrArg
	}
	for a := range m.n {
		for b := a; b < m.n; b++ {
			if m.joins[a][b] < 0 || m.meets[a][b] < 0 {
				return a, b, api.ErrLattice
			}
		}
	}
	for a := range m.n {
		for b := range m.n {
			for c := range m.n {
				if m.meets[a][m.joins[b][c]] != m.joins[m.meets[a][b]][m.meets[a][c]] {
					return a, b, api.ErrLattice
				}
			}
		}
	}
	return 0, 0, api.OK
}

// outside are numbers that no lattice of n elements has.
func outside(n int) []int {
	return []int{-1, -2, -64, -65, math.MinInt, math.MinInt + 1, n, n + 1, 64, 65, 127, 128, 255, 256, 1 << 32, 1<<32 + 1, math.MaxInt}
}

// hold holds all that a lattice answers of two elements against the model.
func (m *model) hold(t *testing.T, l *lattice.Lattice, o *order.Order) {
	t.Helper()
	asked := l.Asked()
	if l.Order() != o {
		t.Fatal("another order")
	}
	bottom, top := m.least(func(int) bool { return true }, func(c, d int) bool { return m.most[c][d] }), m.least(func(int) bool { return true }, func(c, d int) bool { return m.most[d][c] })
	if l.Bottom() != bottom || l.Top() != top || l.JoinAll(nil) != bottom || l.JoinAll([]int{}) != bottom {
		t.Fatalf("bottom %d, not %d; top %d, not %d; of none %d", l.Bottom(), bottom, l.Top(), top, l.JoinAll(nil))
	}
	for a := range m.n {
		for b := range m.n {
			if l.Join(a, b) != m.joins[a][b] || l.Meet(a, b) != m.meets[a][b] || l.JoinAll([]int{a, b}) != m.joins[a][b] {
				t.Fatalf("%d and %d: join %d, not %d; meet %d, not %d", a, b, l.Join(a, b), m.joins[a][b], l.Meet(a, b), m.meets[a][b])
			}
		}
	}
	if got, want := l.Asked(), asked+2*m.n*m.n; got != want {
		t.Fatalf("asked %d, not %d", got, want)
	}
	holdOutside(t, l, m.n)
}

func holdOutside(t *testing.T, l *lattice.Lattice, n int) {
	t.Helper()
	asked, count := l.Asked(), 0
	for _, x := range outside(n) {
		if l.Join(x, x) != -1 || l.Meet(x, x) != -1 || l.JoinAll([]int{x}) != -1 {
			t.Fatalf("%d is an element", x)
		}
		count += 2
		for _, y := range []int{0, n / 2, n - 1} {
			if l.Join(x, y) != -1 || l.Join(y, x) != -1 || l.Meet(x, y) != -1 || l.Meet(y, x) != -1 || l.JoinAll([]int{x, y}) != -1 || l.JoinAll([]int{y, x}) != -1 || l.JoinAll([]int{y, x, y}) != -1 {
				t.Fatalf("%d and %d", x, y)
			}
			count += 4
		}
	}
	if l != nil && l.Asked() != asked+count {
		t.Fatalf("asked %d, not %d", l.Asked(), asked+count)
	}
}

// check holds New, and all that its answer answers, against the model.
func check(t *testing.T, o *order.Order) api.Errno {
	t.Helper()
	m := modelOf(o)
	wantA, wantB, want := m.made()
	l, a, b, e := lattice.New(o)
	if a != wantA || b != wantB || e != want || (l == nil) != (e != api.OK) {
		t.Fatalf("%s: %d, %d and %d, not %d, %d and %d", said(o), a, b, e, wantA, wantB, want)
	}
	if e == api.OK {
		if l.Asked() != 0 {
			t.Fatalf("asked %d times", l.Asked())
		}
		m.hold(t, l, o)
	}
	return e
}

// said is an order as a text: of each element those that are at most it.
func said(o *order.Order) string {
	s := ""
	for i := range o.Len() {
		s += " " + o.Name(i) + ":"
		for j := range o.Len() {
			if i != j && o.Most(j, i) {
				s += " " + o.Name(j)
			}
		}
		s += ";"
	}
	return s
}

// name is one of many names; their places in the alphabet have nothing to do with their numbers.
func name(i int) string {
	const letters = "zvxbdaey"
	return letters[i%8:i%8+1] + letters[i/8%8:i/8%8+1]
}

// ordered is the order of n things, of which the i-th has the number perm[i], with these pairs of things.
func ordered(t *testing.T, perm []int, pairs [][2]int) *order.Order {
	t.Helper()
	var l []api.Pair
	for i := range perm {
		l = append(l, api.Pair{Low: name(i)})
	}
	for _, p := range pairs {
		l = append(l, api.Pair{Low: name(perm[p[0]]), High: name(perm[p[1]])})
	}
	o, at, e := order.New(l)
	if e != api.OK || o.Len() != len(perm) {
		t.Fatal(at, e)
	}
	return o
}

// perms goes through all ways to number n things.
func perms(n int, one func(perm []int)) {
	perm := make([]int, 0, n)
	var from func()
	from = func() {
		if len(perm) == n {
			one(perm)
		}
		for i := range n {
			if !slices.Contains(perm, i) {
				perm = append(perm, i)
				from()
				perm = perm[:len(perm)-1]
			}
		}
	}
	from()
}

// below are all pairs of n things of which the first one has the lower number.
func below(n int) [][2]int {
	var l [][2]int
	for i := range n {
		for j := i + 1; j < n; j++ {
			l = append(l, [2]int{i, j})
		}
	}
	return l
}

// these are the pairs whose bits are set.
func these(pairs [][2]int, some int) [][2]int {
	var l [][2]int
	for i, p := range pairs {
		if some>>i&1 == 1 {
			l = append(l, p)
		}
	}
	return l
}

// TestAllOrdersOfFive has all orders of up to five elements, numbered in all ways but for those of five, and some of those of six.
func TestAllOrdersOfFive(t *testing.T) {
	for n := range 5 {
		for some := range 1 << len(below(n)) {
			perms(n, func(perm []int) { check(t, ordered(t, perm, these(below(n), some))) })
		}
	}
	for _, perm := range [][]int{{0, 1, 2, 3, 4}, {4, 3, 2, 1, 0}, {2, 4, 1, 0, 3}, {3, 0, 4, 1, 2}, {1, 2, 0, 4, 3}} {
		for some := range 1 << 10 {
			check(t, ordered(t, perm, these(below(5), some)))
		}
	}
	for some := range 1 << 15 {
		check(t, ordered(t, []int{3, 5, 0, 2, 4, 1}, these(below(6), some)))
	}
}

// bounded are pairs of n things with a bottom and a top beside them, which are the last two.
func bounded(n int, pairs [][2]int) [][2]int {
	l := append(slices.Clone(pairs), [2]int{n, n + 1})
	for i := range n {
		l = append(l, [2]int{n, i}, [2]int{i, n + 1})
	}
	return l
}

// TestAllWithBottomAndTop has all orders of up to five elements that are at most a top, and that a bottom is at most: many of these are lattices, of each kind.
func TestAllWithBottomAndTop(t *testing.T) {
	seen := map[api.Errno]int{}
	for n := range 4 {
		for some := range 1 << len(below(n)) {
			perms(n+2, func(perm []int) { seen[check(t, ordered(t, perm, bounded(n, these(below(n), some))))]++ })
		}
	}
	for n := 4; n < 6; n++ {
		w := rand.New(rand.NewPCG(14, uint64(n)))
		for some := range 1 << len(below(n)) {
			for range 6 {
				seen[check(t, ordered(t, w.Perm(n+2), bounded(n, these(below(n), some))))]++
			}
		}
	}
	for _, e := range []api.Errno{api.OK, api.ErrLattice} {
		if seen[e] < 500 {
			t.Errorf("%d: seen %d times", e, seen[e])
		}
	}
}

// closed are all sets of the first k things that have, with each of theirs, all that is told of it to lie below.
func closed(k int, under []int) []int {
	var l []int
	for s := range 1 << k {
		ok := true
		for i := range k {
			ok = ok && (s>>i&1 == 0 || under[i]&^s == 0)
		}
		if ok {
			l = append(l, s)
		}
	}
	return l
}

// drawnSets is such a list of at most 64 sets: by what they hold they are a distributive lattice.
func drawnSets(w *rand.Rand) []int {
	for {
		k := 1 + w.IntN(9)
		under := make([]int, k)
		for i := range k {
			for j := range i {
				if w.IntN(3) == 0 {
					under[i] |= 1 << j
				}
			}
		}
		if l := closed(k, under); len(l) <= 64 {
			return l
		}
	}
}

// bySets are the pairs of sets of which one holds the other.
func bySets(sets []int) [][2]int {
	var l [][2]int
	for i, s := range sets {
		for j, r := range sets {
			if i != j && s&^r == 0 {
				l = append(l, [2]int{i, j})
			}
		}
	}
	return l
}

// TestSets holds lattices of sets against what sets have together and in common.
func TestSets(t *testing.T) {
	w := rand.New(rand.NewPCG(14, 1))
	sizes := map[bool]int{}
	for range 300 {
		sets := drawnSets(w)
		perm := w.Perm(len(sets))
		o := ordered(t, perm, bySets(sets))
		l, a, b, e := lattice.New(o)
		if l == nil || a != 0 || b != 0 || e != api.OK {
			t.Fatalf("%d, %d and %d", a, b, e)
		}
		at := func(s int) int { return perm[slices.Index(sets, s)] }
		for i, s := range sets {
			for j, r := range sets {
				if l.Join(perm[i], perm[j]) != at(s|r) || l.Meet(perm[i], perm[j]) != at(s&r) {
					t.Fatalf("%x and %x", s, r)
				}
			}
		}
		for range 50 {
			all, some := 0, []int(nil)
			for range w.IntN(6) {
				i := w.IntN(len(sets))
				all |= sets[i]
				some = append(some, perm[i])
			}
			if got, want := l.JoinAll(some), at(all); got != want {
				t.Fatalf("%v: %d, not %d", some, got, want)
			}
		}
		if l.Bottom() != at(0) || l.Top() != at(slices.MaxFunc(sets, func(s, r int) int { return bits.OnesCount(uint(s)) - bits.OnesCount(uint(r)) })) {
			t.Fatal(l.Bottom(), l.Top())
		}
		sizes[len(sets) > 40]++
	}
	if sizes[true] < 20 || sizes[false] < 20 {
		t.Error(sizes)
	}
}

// TestBrokenSets takes sets away from such lattices, or lays one below another one: some have no join or no meet then, in some the law doesn't hold, some are lattices still.
func TestBrokenSets(t *testing.T) {
	w := rand.New(rand.NewPCG(14, 2))
	seen := map[api.Errno]int{}
	for range 400 {
		sets := drawnSets(w)
		if len(sets) < 4 || len(sets) > 33 && w.IntN(8) > 0 {
			continue
		}
		for range 1 + w.IntN(2) {
			i := 1 + w.IntN(len(sets)-2)
			sets = slices.Delete(sets, i, i+1)
		}
		pairs := bySets(sets)
		if w.IntN(3) == 0 {
			i, j := w.IntN(len(sets)), w.IntN(len(sets))
			if sets[j]&^sets[i] != 0 {
				pairs = append(pairs, [2]int{i, j})
			}
		}
		seen[check(t, ordered(t, w.Perm(len(sets)), pairs))]++
	}
	if seen[api.OK] < 20 || seen[api.ErrLattice] < 20 {
		t.Error(seen)
	}
}

// TestLateFaults has long chains with a fault in them, anywhere, numbered in any way.
func TestLateFaults(t *testing.T) {
	w := rand.New(rand.NewPCG(14, 3))
	faults := []struct {
		n     int
		pairs [][2]int
	}{
		{5, [][2]int{{0, 1}, {0, 2}, {0, 3}, {1, 4}, {2, 4}, {3, 4}}},
		{5, [][2]int{{0, 1}, {1, 2}, {0, 3}, {2, 4}, {3, 4}}},
		{6, [][2]int{{0, 1}, {0, 2}, {1, 3}, {1, 4}, {2, 3}, {2, 4}, {3, 5}, {4, 5}}},
		{4, [][2]int{{0, 1}, {0, 2}, {1, 3}, {2, 3}}},
		{3, [][2]int{{0, 1}, {0, 2}}},
		{3, [][2]int{{0, 2}, {1, 2}}},
	}
	for round := range 36 {
		f := faults[round%6]
		n := 64 - w.IntN(3)
		first := w.IntN(n - f.n + 1)
		var pairs [][2]int
		for i := range n - 1 {
			if i < first || i >= first+f.n-1 {
				pairs = append(pairs, [2]int{i, i + 1})
			}
		}
		for _, p := range f.pairs {
			pairs = append(pairs, [2]int{first + p[0], first + p[1]})
		}
		// What stands ahead is at most all of it, and all of it is at most what stands behind.
		for i := range f.n {
			if first > 0 {
				pairs = append(pairs, [2]int{first - 1, first + i})
			}
			if first+f.n < n {
				pairs = append(pairs, [2]int{first + i, first + f.n})
			}
		}
		check(t, ordered(t, w.Perm(n), pairs))
	}
}
