package irred_test

import (
	"math/rand/v2"
	"slices"
	"strings"
	"testing"

	"blazon/api"
	"blazon/irred"
	"blazon/lattice"
	"blazon/order"
)

const (
	diamond = "bot < l; bot < r; l < top; r < top"
	houses  = "low < x; x < y; low < z; x < xz; z < xz; y < top; xz < top"
)

// saidBy is the lattice that a text says.
func saidBy(t *testing.T, s string) *lattice.Lattice {
	t.Helper()
	var pairs []api.Pair
	for _, p := range strings.Split(s, "; ") {
		low, high, _ := strings.Cut(p, " < ")
		pairs = append(pairs, api.Pair{Low: low, High: high})
	}
	o, at, e := order.New(pairs)
	if e != api.OK {
		t.Fatalf("%s: %d at %d", s, e, at)
	}
	l, a, b, e := lattice.New(o)
	if e != api.OK {
		t.Fatalf("%s: %d and %d: %d", s, a, b, e)
	}
	return l
}

func TestExample(t *testing.T) {
	l := saidBy(t, diamond)
	x := irred.New(l)
	if x.Len() != 2 || l.Order().Name(x.Elem(0)) != "l" || l.Order().Name(x.Elem(1)) != "r" {
		t.Fatal(x.Len(), x.Elem(0), x.Elem(1))
	}
	for name, want := range map[string]uint64{"bot": 0, "l": 1, "r": 2, "top": 3} {
		if e, _ := l.Order().Find(name); x.Set(e) != want || x.Of(want) != e || !x.Is(want) {
			t.Errorf("%s: %b, not %b", name, x.Set(e), want)
		}
	}
}

// TestKnown: the irreducibles by their numbers, and the set of each element, the elements by their numbers, which are the order in which names come first.
func TestKnown(t *testing.T) {
	for _, c := range []struct {
		s     string
		elems []int
		sets  []uint64
	}{
		{"a", nil, []uint64{0}},
		{"a < b", []int{1}, []uint64{0, 1}},
		{"b; a < b", []int{0}, []uint64{1, 0}},
		{"a < b; b < c; c < d", []int{1, 2, 3}, []uint64{0, 1, 3, 7}},
		{"d; c < d; b < c; a < b", []int{0, 1, 2}, []uint64{7, 6, 4, 0}},
		{"c; a < c; b < a; c < d", []int{0, 1, 3}, []uint64{3, 2, 0, 7}},
		{diamond, []int{1, 2}, []uint64{0, 1, 2, 3}},
		{"top; r < top; bot < r; l < top; bot < l", []int{1, 3}, []uint64{3, 1, 0, 2}},
		{houses, []int{1, 2, 3}, []uint64{0, 1, 3, 4, 5, 7}},
		// A top above all, and a bottom below all: that top is irreducible, and so is the old bottom.
		{diamond + "; top < all", []int{1, 2, 4}, []uint64{0, 1, 2, 3, 7}},
		{diamond + "; least < bot", []int{0, 1, 2}, []uint64{1, 3, 5, 7, 0}},
		// Three of them, and what any two, or all, have together.
		{"o < a; o < b; o < c; a < ab; b < ab; a < ac; c < ac; b < bc; c < bc; ab < abc; ac < abc; bc < abc", []int{1, 2, 3}, []uint64{0, 1, 2, 4, 3, 5, 6, 7}},
		// Two steps one way, two the other.
		{"oo < oi; oi < ot; oo < io; io < ii; ii < it; oi < ii; ot < it; io < to; to < ti; ti < tt; ii < ti; it < tt", []int{1, 2, 3, 6}, []uint64{0, 1, 3, 4, 5, 7, 12, 13, 15}},
	} {
		x := irred.New(saidBy(t, c.s))
		if x.Len() != len(c.elems) {
			t.Fatalf("%s: %d", c.s, x.Len())
		}
		for i, e := range c.elems {
			if x.Elem(i) != e {
				t.Errorf("%s: irreducible %d is %d, not %d", c.s, i, x.Elem(i), e)
			}
		}
		for e, set := range c.sets {
			if x.Set(e) != set || x.Of(set) != e || x.Down(set) != set || !x.Is(set) {
				t.Errorf("%s: the set of %d is %b, not %b", c.s, e, x.Set(e), set)
			}
		}
		for set := range uint64(64) {
			if x.Is(set) != slices.Contains(c.sets, set) {
				t.Errorf("%s: %b: %t", c.s, set, x.Is(set))
			}
		}
		holdOutside(t, x, len(c.sets))
		check(t, saidBy(t, c.s).Order())
	}
}

// TestSetsOfHouses: low 0, x 1, y 2, z 3, xz 4, top 5; irreducible are x, y and z.
func TestSetsOfHouses(t *testing.T) {
	x := irred.New(saidBy(t, houses))
	for _, c := range []struct {
		set, down uint64
		of        int
	}{
		{0, 0, 0}, {1, 1, 1}, {2, 3, 2}, {3, 3, 2}, {4, 4, 3}, {5, 5, 4}, {6, 7, 5}, {7, 7, 5},
		// Of those that there aren't nothing is taken.
		{8, 0, 0}, {9, 1, 1}, {1<<63 | 2, 3, 2}, {1<<32 | 4, 4, 3}, {1<<64 - 1, 7, 5}, {1<<64 - 8, 0, 0},
	} {
		if x.Down(c.set) != c.down || x.Of(c.set) != c.of || x.Is(c.set) != (c.set == c.down) {
			t.Errorf("%b: %b, %d and %t", c.set, x.Down(c.set), x.Of(c.set), x.Is(c.set))
		}
	}
	for a, l := range [][]int{{0, 1, 2, 1, 2, 3}, {1, 0, 1, 2, 1, 2}, {2, 1, 0, 3, 2, 1}, {1, 2, 3, 0, 1, 2}, {2, 1, 2, 1, 0, 1}, {3, 2, 1, 2, 1, 0}} {
		for b, want := range l {
			if x.Apart(a, b) != want {
				t.Errorf("%d and %d: %d, not %d", a, b, x.Apart(a, b), want)
			}
		}
	}
}

// TestChain has as many irreducibles as there can be: of 64 elements all but the bottom.
func TestChain(t *testing.T) {
	w := rand.New(rand.NewPCG(15, 1))
	for range 3 {
		perm := w.Perm(64)
		var pairs [][2]int
		for i := range 63 {
			pairs = append(pairs, [2]int{i, i + 1})
		}
		o := numbered(t, perm, pairs)
		check(t, o)
		x := irred.New(of(t, o))
		if x.Len() != 63 || x.Set(perm[63]) != 1<<63-1 || x.Of(1<<64-1) != perm[63] || x.Of(1<<63) != perm[0] || x.Is(1<<64-1) || !x.Is(1<<63-1) {
			t.Error(x.Len(), x.Set(perm[63]), x.Of(1<<64-1))
		}
		for i := range 64 {
			for j := range 64 {
				if x.Apart(perm[i], perm[j]) != max(i-j, j-i) {
					t.Fatal(i, j, x.Apart(perm[i], perm[j]))
				}
			}
		}
	}
}

// TestNone has irreducibles that aren't there, some that New didn't make, and lattices that are none.
func TestNone(t *testing.T) {
	if irred.New(nil) != nil || irred.New(new(lattice.Lattice)) != nil {
		t.Error("of nothing")
	}
	for _, x := range []*irred.Irred{nil, new(irred.Irred)} {
		if x.Len() != 0 {
			t.Error(x.Len())
		}
		for _, set := range []uint64{0, 1, 2, 3, 1 << 63, 1<<64 - 1} {
			if x.Of(set) != -1 || x.Down(set) != 0 || x.Is(set) {
				t.Error(set, x.Of(set), x.Down(set), x.Is(set))
			}
		}
		holdOutside(t, x, 0)
	}
}

// TestMemory looks whether a call changes what it is handed, or what it counts, and whether what is done with that changes an answer.
func TestMemory(t *testing.T) {
	l := saidBy(t, houses)
	o := l.Order()
	m := modelOf(o)
	x := irred.New(l)
	m.hold(t, x)
	if l.Asked() != 0 || l.Order() != o {
		t.Error(l.Asked())
	}
	// Who writes over the order that a lattice answers changes no join.
	*o = order.Order{}
	m.hold(t, x)
	m.hold(t, irred.New(l))
	*o = *saidBy(t, diamond).Order()
	m.hold(t, irred.New(l))
	*l = lattice.Lattice{}
	m.hold(t, x)
	if irred.New(l) != nil {
		t.Error("of nothing")
	}
	other := *x
	*x = irred.Irred{}
	m.hold(t, &other)
}

// TestOneAnswer asks the same again and again, of several that are there at once.
func TestOneAnswer(t *testing.T) {
	one, two := saidBy(t, houses), saidBy(t, diamond)
	m, n := modelOf(one.Order()), modelOf(two.Order())
	x := irred.New(one)
	for range 50 {
		n.hold(t, irred.New(two))
		m.hold(t, irred.New(one))
		m.hold(t, x)
	}
}
