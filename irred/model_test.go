package irred_test

import (
	"math"
	"math/bits"
	"math/rand/v2"
	"slices"
	"testing"

	"blazon/api"
	"blazon/irred"
	"blazon/lattice"
	"blazon/order"
)

// A model is what the chapter says of a lattice's order, of which it asks what is at most what, and nothing else.
type model struct {
	n     int
	most  [64][64]bool
	elems []int
}

func modelOf(o *order.Order) *model {
	m := &model{n: o.Len()}
	for a := range m.n {
		for b := range m.n {
			m.most[a][b] = o.Most(a, b)
		}
	}
	for e := range m.n {
		var others []int
		for f := range m.n {
			if f != e && m.most[f][e] {
				others = append(others, f)
			}
		}
		if e != m.join(nil) && e != m.join(others) {
			m.elems = append(m.elems, e)
		}
	}
	return m
}

// join is the element that all of these are at most, and that is at most each such one.
func (m *model) join(these []int) int {
	above := func(e int) bool {
		return !slices.ContainsFunc(these, func(f int) bool { return !m.most[f][e] })
	}
	for e := range m.n {
		if !above(e) {
			continue
		}
		least := true
		for f := range m.n {
			least = least && (!above(f) || m.most[e][f])
		}
		if least {
			return e
		}
	}
	return -1
}

// set are the numbers of the irreducibles that are at most e, as bits.
func (m *model) set(e int) uint64 {
	s := uint64(0)
	for i, f := range m.elems {
		if m.most[f][e] {
			s += 1 << i
		}
	}
	return s
}

// those are the elements of a set's irreducibles.
func (m *model) those(set uint64) []int {
	var l []int
	for i, e := range m.elems {
		if set&(1<<i) != 0 {
			l = append(l, e)
		}
	}
	return l
}

func (m *model) down(set uint64) uint64 {
	d := uint64(0)
	for i, e := range m.elems {
		if slices.ContainsFunc(m.those(set), func(f int) bool { return m.most[e][f] }) {
			d += 1 << i
		}
	}
	return d
}

// is: with each irreducible there are all that are at most that, and no others are there.
func (m *model) is(set uint64) bool {
	if len(m.those(set)) != bits.OnesCount64(set) {
		return false
	}
	for i, e := range m.elems {
		for _, f := range m.those(set) {
			if m.most[e][f] && set&(1<<i) == 0 {
				return false
			}
		}
	}
	return true
}

// outside are numbers that no lattice of n elements has.
func outside(n int) []int {
	return []int{-1, -2, -63, -64, -65, math.MinInt, math.MinInt + 1, n, n + 1, 64, 65, 127, 128, 255, 256, 1 << 32, 1<<32 + 1, math.MaxInt}
}

func holdOutside(t *testing.T, x *irred.Irred, n int) {
	t.Helper()
	for _, e := range outside(n) {
		if x.Set(e) != 0 || x.Apart(e, e) != -1 {
			t.Fatalf("%d is an element", e)
		}
		for _, f := range []int{0, n / 2, n - 1} {
			if x.Apart(e, f) != -1 || x.Apart(f, e) != -1 {
				t.Fatalf("%d and %d: %d", e, f, x.Apart(e, f))
			}
		}
	}
	for _, i := range outside(x.Len()) {
		if x.Elem(i) != -1 {
			t.Fatalf("irreducible %d is %d", i, x.Elem(i))
		}
	}
}

// holdSet holds all that is answered of a set against the model.
func (m *model) holdSet(t *testing.T, x *irred.Irred, set uint64) {
	t.Helper()
	if x.Of(set) != m.join(m.those(set)) || x.Down(set) != m.down(set) || x.Is(set) != m.is(set) {
		t.Fatalf("%b: of %d, not %d; down %b, not %b; is %t, not %t", set, x.Of(set), m.join(m.those(set)), x.Down(set), m.down(set), x.Is(set), m.is(set))
	}
}

// hold holds all that is answered against the model: of few irreducibles all sets, with two places beyond them.
func (m *model) hold(t *testing.T, x *irred.Irred) {
	t.Helper()
	if x.Len() != len(m.elems) {
		t.Fatalf("%d irreducibles, not %d", x.Len(), len(m.elems))
	}
	for i, e := range m.elems {
		if x.Elem(i) != e {
			t.Fatalf("irreducible %d is %d, not %d", i, x.Elem(i), e)
		}
	}
	for a := range m.n {
		if x.Set(a) != m.set(a) {
			t.Fatalf("the set of %d is %b, not %b", a, x.Set(a), m.set(a))
		}
		m.holdSet(t, x, x.Set(a))
		for b := range m.n {
			if x.Apart(a, b) != bits.OnesCount64(m.set(a)&^m.set(b))+bits.OnesCount64(m.set(b)&^m.set(a)) {
				t.Fatalf("%d and %d: %d", a, b, x.Apart(a, b))
			}
		}
	}
	for _, i := range []int{0, 1, x.Len() / 2, x.Len() - 1, x.Len(), 31, 32, 62, 63} {
		if i >= 0 {
			m.holdSet(t, x, 1<<i)
			m.holdSet(t, x, 1<<i-1)
			m.holdSet(t, x, 1<<64-1-1<<i)
		}
	}
	if x.Len() < 5 {
		for set := range uint64(1) << (x.Len() + 2) {
			m.holdSet(t, x, set)
		}
	}
	holdOutside(t, x, m.n)
	holdLaws(t, x, m)
}

// holdLaws: P15.3.
func holdLaws(t *testing.T, x *irred.Irred, m *model) {
	t.Helper()
	for a := range m.n {
		if x.Of(x.Set(a)) != a || !x.Is(x.Set(a)) {
			t.Fatalf("%d isn't the join of its set: %d", a, x.Of(x.Set(a)))
		}
		for b := range m.n {
			if m.most[a][b] != (x.Set(a)&^x.Set(b) == 0) {
				t.Fatalf("%d and %d: %b and %b", a, b, x.Set(a), x.Set(b))
			}
		}
	}
	if x.Len() < 5 {
		down := 0
		for set := range uint64(1) << (x.Len() + 1) {
			if x.Is(set) {
				down++
			}
		}
		if down != m.n {
			t.Fatalf("%d sets are down, of %d elements", down, m.n)
		}
	}
}

// of is an order's lattice.
func of(t *testing.T, o *order.Order) *lattice.Lattice {
	t.Helper()
	l, a, b, e := lattice.New(o)
	if e != api.OK {
		t.Fatalf("%d and %d: %d", a, b, e)
	}
	return l
}

// check holds all that is answered of an order's lattice against the model.
func check(t *testing.T, o *order.Order) {
	t.Helper()
	l := of(t, o)
	modelOf(o).hold(t, irred.New(l))
	if l.Asked() != 0 {
		t.Fatalf("asked %d times", l.Asked())
	}
}

// numbered is the order of things by these pairs, of which the i-th has the number perm[i].
func numbered(t *testing.T, perm []int, pairs [][2]int) *order.Order {
	t.Helper()
	name := func(number int) string {
		const letters = "qhwmbzkc"
		return letters[number%8:number%8+1] + letters[number/8:number/8+1]
	}
	var l []api.Pair
	for number := range perm {
		l = append(l, api.Pair{Low: name(number)})
	}
	for _, p := range pairs {
		l = append(l, api.Pair{Low: name(perm[p[0]]), High: name(perm[p[1]])})
	}
	o, at, e := order.New(l)
	if e != api.OK || o.Len() != len(perm) {
		t.Fatal(at, e)
	}
	return o
}

// Things are told by what lies right below each of them, as bits; what lies below that does so too.
type things []uint64

// whole is a set of things with all that lies below one of them. What lies below a thing has a lower number.
func (h things) whole(s uint64) uint64 {
	for i := len(h) - 1; i >= 0; i-- {
		if s>>i&1 == 1 {
			s |= h[i]
		}
	}
	return s
}

// all are the sets of things that are whole: by what they hold they are a distributive lattice, and what is
// irreducible in it is a thing with all that lies below it.
func (h things) all() []uint64 {
	var l []uint64
	for s := range uint64(1) << len(h) {
		if h.whole(s) == s {
			l = append(l, s)
		}
	}
	return l
}

// checkThings holds all that is answered of the lattice of some things against their sets, which are numbered by perm.
func checkThings(t *testing.T, h things, perm []int) {
	t.Helper()
	all := h.all()
	var pairs [][2]int
	for i, s := range all {
		for j, r := range all {
			if i != j && s&^r == 0 {
				pairs = append(pairs, [2]int{i, j})
			}
		}
	}
	o := numbered(t, perm, pairs)
	number := func(s uint64) int { return perm[slices.Index(all, s)] }
	x := irred.New(of(t, o))
	if x.Len() != len(h) {
		t.Fatalf("%d irreducibles of %d things", x.Len(), len(h))
	}
	// The things, by the numbers of what is irreducible.
	var things []int
	for i := range h {
		things = append(things, i)
	}
	slices.SortFunc(things, func(i, j int) int { return number(h.whole(1<<i)) - number(h.whole(1<<j)) })
	bitsOf := func(s uint64) uint64 {
		b := uint64(0)
		for i, thing := range things {
			b += s >> thing & 1 << i
		}
		return b
	}
	for i, thing := range things {
		if x.Elem(i) != number(h.whole(1<<thing)) {
			t.Fatalf("irreducible %d is %d", i, x.Elem(i))
		}
	}
	for _, s := range all {
		if x.Set(number(s)) != bitsOf(s) {
			t.Fatalf("%b: %b, not %b", s, x.Set(number(s)), bitsOf(s))
		}
		for _, r := range all {
			if x.Apart(number(s), number(r)) != bits.OnesCount64(s^r) {
				t.Fatalf("%b and %b: %d", s, r, x.Apart(number(s), number(r)))
			}
		}
	}
	for s := range uint64(1) << len(h) {
		for _, more := range []uint64{0, 1 << len(h), 1 << 63} {
			if got := bitsOf(s) | more; x.Of(got) != number(h.whole(s)) || x.Down(got) != bitsOf(h.whole(s)) || x.Is(got) != (more == 0 && h.whole(s) == s) {
				t.Fatalf("%b: of %d, down %b, is %t", got, x.Of(got), x.Down(got), x.Is(got))
			}
		}
	}
	check(t, o)
}

// TestAllThings has all ways in which up to four things may lie below one another, numbered in several ways.
func TestAllThings(t *testing.T) {
	w := rand.New(rand.NewPCG(15, 2))
	for n := range 5 {
		for ways := range uint64(1) << (n * (n - 1) / 2) {
			h := make(things, n)
			for i := range h {
				h[i] = ways >> (i * (i - 1) / 2) & (1<<i - 1)
			}
			size := len(h.all())
			up, down := make([]int, size), make([]int, size)
			for i := range size {
				up[i], down[i] = i, size-1-i
			}
			checkThings(t, h, up)
			checkThings(t, h, down)
			for range 6 {
				checkThings(t, h, w.Perm(size))
			}
		}
	}
}

// TestDrawnThings has up to ten things, while there are at most 64 sets that are whole.
func TestDrawnThings(t *testing.T) {
	w := rand.New(rand.NewPCG(15, 3))
	sizes := map[bool]int{}
	for range 150 {
		h := make(things, 4+w.IntN(7))
		dense := 1 + w.IntN(4)
		for i := range h {
			for j := range i {
				if w.IntN(4) < dense {
					h[i] |= 1 << j
				}
			}
		}
		if size := len(h.all()); size <= 64 {
			sizes[size > 24]++
			checkThings(t, h, w.Perm(size))
		}
	}
	if sizes[true] < 10 || sizes[false] < 10 {
		t.Error(sizes)
	}
	// Six things none of which lies below another one have 64 sets.
	checkThings(t, make(things, 6), w.Perm(64))
}
