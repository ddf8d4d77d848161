package lattice_test

import (
	"math/rand/v2"
	"slices"
	"strings"
	"testing"

	"blazon/api"
	"blazon/lattice"
	"blazon/order"
)

// read is the order that a text says.
func read(t *testing.T, s string) *order.Order {
	t.Helper()
	var l []api.Pair
	for _, x := range strings.Split(s, "; ") {
		low, high, _ := strings.Cut(x, " < ")
		l = append(l, api.Pair{Low: low, High: high})
	}
	o, at, e := order.New(l)
	if e != api.OK {
		t.Fatalf("%s: %d at %d", s, e, at)
	}
	return o
}

// made is the lattice that a text says.
func made(t *testing.T, s string) *lattice.Lattice {
	t.Helper()
	l, a, b, e := lattice.New(read(t, s))
	if l == nil || a != 0 || b != 0 || e != api.OK {
		t.Fatalf("%s: %d, %d and %d", s, a, b, e)
	}
	return l
}

const diamond = "bot < l; bot < r; l < top; r < top"

func TestExamples(t *testing.T) {
	l := made(t, diamond)
	at := func(name string) int {
		i, ok := l.Order().Find(name)
		if !ok {
			t.Fatal(name)
		}
		return i
	}
	if l.Join(at("l"), at("r")) != at("top") || l.Meet(at("l"), at("r")) != at("bot") || l.Bottom() != at("bot") || l.Top() != at("top") {
		t.Error(l.Join(1, 2), l.Meet(1, 2), l.Bottom(), l.Top())
	}
	if l, a, b, e := lattice.New(read(t, "a; b")); l != nil || a != 0 || b != 1 || e != api.ErrLattice {
		t.Error(l, a, b, e)
	}
}

// TestErrors: a and b by their numbers, which are the order in which names come first.
func TestErrors(t *testing.T) {
	for _, c := range []struct {
		s    string
		a, b int
		e    api.Errno
	}{
		{"a", 0, 0, api.OK}, {"a < b", 0, 0, api.OK}, {"b < a; a < c", 0, 0, api.OK}, {diamond, 0, 0, api.OK}, {"top; l < top; r < top; bot < r; bot < l", 0, 0, api.OK},
		// No join, or no meet.
		{"a; b", 0, 1, api.ErrLattice}, {"a; b; c", 0, 1, api.ErrLattice}, {"a < b; c", 0, 2, api.ErrLattice}, {"a < b; a < c", 1, 2, api.ErrLattice}, {"b < a; c < a", 0, 2, api.ErrLattice},
		{"a < b; b < c; b < d", 2, 3, api.ErrLattice}, {"c < b; d < b; b < a", 0, 2, api.ErrLattice}, {"x < z; x < y; y < t; z < t; w < y; w < z", 0, 4, api.ErrLattice},
		// Two that both are at most, and none of them is at most the other.
		{"b < x; b < y; x < p; y < p; x < q; y < q; p < t; q < t", 1, 2, api.ErrLattice}, {"t; p < t; q < t; x < p; y < p; x < q; y < q; b < x; b < y", 1, 2, api.ErrLattice},
		{"b; t; x < p; y < p; x < q; y < q; p < t; q < t; b < x; b < y", 2, 4, api.ErrLattice}, {"b; t; x < p; x < q; y < p; y < q; p < t; q < t; b < x; b < y", 2, 5, api.ErrLattice},
		{"p < t; x < p; x < q; y < p; y < q; q < t; b < x; b < y", 0, 3, api.ErrLattice},
		// All have both, but the law doesn't hold: the first two needn't rise.
		{"b < x; b < y; b < z; x < t; y < t; z < t", 1, 2, api.ErrLattice}, {"x < t; y < t; z < t; b < x; b < y; b < z", 0, 2, api.ErrLattice},
		{"b < x; x < y; b < z; y < t; z < t", 2, 1, api.ErrLattice}, {"b < z; z < t; b < x; x < y; y < t", 4, 1, api.ErrLattice}, {"y < t; x < y; b < x; b < z; z < t", 0, 2, api.ErrLattice},
		{"b < c; c < x; c < y; c < z; x < t; y < t; z < t; t < u", 2, 3, api.ErrLattice},
		// A join that is missing goes ahead of a law that doesn't hold, wherever both are.
		{"b < x; b < y; b < z; x < t; y < t; z < t; t < u; t < v", 5, 6, api.ErrLattice}, {"b < x; x < y; b < z; y < t; z < t; c", 0, 5, api.ErrLattice},
	} {
		l, a, b, e := lattice.New(read(t, c.s))
		if (l == nil) != (c.e != api.OK) || a != c.a || b != c.b || e != c.e {
			t.Errorf("%s: %d, %d and %d, not %d, %d and %d", c.s, a, b, e, c.a, c.b, c.e)
		}
		check(t, read(t, c.s))
	}
}

// TestNoOrder has no order, and orders without elements.
func TestNoOrder(t *testing.T) {
	empty, _, _ := order.New(nil)
	for i, o := range []*order.Order{nil, new(order.Order), empty} {
		if l, a, b, e := lattice.New(o); l != nil || a != 0 || b != 0 || e != api.ErrArg {
			t.Errorf("%d: %d, %d and %d", i, a, b, e)
		}
	}
}

// TestNone has a lattice that isn't there, and one that New didn't make.
func TestNone(t *testing.T) {
	for _, l := range []*lattice.Lattice{nil, new(lattice.Lattice)} {
		if l.Order() != nil || l.Bottom() != -1 || l.Top() != -1 || l.Asked() != 0 || l.JoinAll(nil) != -1 || l.JoinAll([]int{0}) != -1 {
			t.Error(l.Order(), l.Bottom(), l.Top(), l.Asked(), l.JoinAll(nil))
		}
		holdOutside(t, l, 0)
	}
	var l *lattice.Lattice
	if l.Join(0, 0) != -1 || l.Meet(0, 0) != -1 || l.Asked() != 0 {
		t.Error(l.Join(0, 0), l.Meet(0, 0), l.Asked())
	}
}

// TestDivisors has the divisors of some numbers: joins and meets are their least common multiples, and greatest common divisors.
func TestDivisors(t *testing.T) {
	w := rand.New(rand.NewPCG(14, 4))
	for _, n := range []int{1, 2, 12, 36, 64, 210, 2520, 5040, 30030, 7560, 1 << 62} {
		var l []int
		for d := 1; d <= n && len(l) < 64; d++ {
			if n == 1<<62 {
				d = max(d, 1<<len(l))
			}
			if n%d == 0 {
				l = append(l, d)
			}
		}
		var pairs [][2]int
		for i, d := range l {
			for j, e := range l {
				if i != j && e%d == 0 {
					pairs = append(pairs, [2]int{i, j})
				}
			}
		}
		perm := w.Perm(len(l))
		o := ordered(t, perm, pairs)
		made, _, _, e := lattice.New(o)
		if e != api.OK {
			t.Fatal(n, e)
		}
		number := func(i int) int { return l[slices.Index(perm, i)] }
		for i, d := range l {
			for j, f := range l {
				g := gcd(d, f)
				if number(made.Meet(perm[i], perm[j])) != g || number(made.Join(perm[i], perm[j])) != d/g*f {
					t.Fatalf("%d: %d and %d", n, d, f)
				}
			}
		}
		if number(made.Bottom()) != 1 || number(made.Top()) != n {
			t.Errorf("%d: %d and %d", n, number(made.Bottom()), number(made.Top()))
		}
		check(t, o)
	}
}

func gcd(a, b int) int {
	for b > 0 {
		a, b = b, a%b
	}
	return a
}

func TestJoinAll(t *testing.T) {
	l := made(t, "top; a < ab; b < ab; a < ac; c < ac; b < bc; c < bc; ab < top; ac < top; bc < top; none < a; none < b; none < c")
	for s, want := range map[string]string{
		"": "none", "none": "none", "a": "a", "a a a": "a", "a b": "ab", "b a": "ab", "c a none": "ac", "none none": "none", "ab a b": "ab", "a b c": "top", "c b": "bc", "ab c": "top", "ac bc": "top", "top": "top", "none top a": "top",
	} {
		var all []int
		for _, n := range strings.Fields(s) {
			i, ok := l.Order().Find(n)
			if !ok {
				t.Fatal(n)
			}
			all = append(all, i)
		}
		if got := l.Order().Name(l.JoinAll(all)); got != want {
			t.Errorf("%s: %s, not %s", s, got, want)
		}
		for at := range len(all) + 1 {
			for _, x := range outside(8) {
				if got := l.JoinAll(slices.Insert(slices.Clone(all), at, x)); got != -1 {
					t.Errorf("%s, and %d at %d: %d", s, x, at, got)
				}
			}
		}
	}
	many := make([]int, 1<<20)
	for i := range many {
		many[i], _ = l.Order().Find([]string{"none", "a", "c"}[i%3])
	}
	if got := l.Order().Name(l.JoinAll(many)); got != "ac" {
		t.Error(got)
	}
	many[len(many)-1] = 8
	if got := l.JoinAll(many); got != -1 {
		t.Error(got)
	}
}

// TestAsked counts the calls of Join and Meet, and no others: right and wrong ones, each lattice its own.
func TestAsked(t *testing.T) {
	o := read(t, diamond)
	l, _, _, _ := lattice.New(o)
	other, _, _, _ := lattice.New(o)
	calls := []struct {
		counts int
		call   func()
	}{
		{1, func() { l.Join(1, 2) }}, {1, func() { l.Meet(1, 2) }}, {1, func() { l.Join(0, 0) }}, {1, func() { l.Join(-1, 7) }}, {1, func() { l.Meet(2, 4) }},
		{0, func() { l.JoinAll([]int{1, 2, 3}) }}, {0, func() { l.JoinAll(nil) }}, {0, func() { l.JoinAll([]int{9}) }}, {0, func() { l.Bottom() }}, {0, func() { l.Top() }}, {0, func() { l.Order() }}, {0, func() { l.Asked() }},
		{0, func() { other.Join(1, 2) }}, {0, func() { lattice.New(o) }},
	}
	want := 0
	for round := range 40 {
		c := calls[round*5%len(calls)]
		c.call()
		want += c.counts
		if got := l.Asked(); got != want {
			t.Fatalf("%d: %d, not %d", round, got, want)
		}
	}
	if want < 10 || other.Asked() != 3 {
		t.Error(want, other.Asked())
	}
	zero := new(lattice.Lattice)
	zero.Join(0, 0)
	zero.Meet(0, 0)
	if zero.Asked() != 2 {
		t.Error(zero.Asked())
	}
}

// P14.3: joins and meets don't hang on the order of both, nor on brackets; a joined with a meet of a is a. And the law of distribution holds.
func TestLaws(t *testing.T) {
	w := rand.New(rand.NewPCG(14, 5))
	lattices := []*lattice.Lattice{made(t, "a"), made(t, "a < b"), made(t, diamond)}
	for len(lattices) < 30 {
		sets := drawnSets(w)
		if len(sets) <= 24 || len(sets) == 64 {
			l, _, _, _ := lattice.New(ordered(t, w.Perm(len(sets)), bySets(sets)))
			lattices = append(lattices, l)
		}
	}
	for _, l := range lattices {
		for a := range l.Order().Len() {
			for b := range l.Order().Len() {
				ab, m := l.Join(a, b), l.Meet(a, b)
				if l.Join(b, a) != ab || l.Meet(b, a) != m || l.Join(a, m) != a || l.Meet(a, ab) != a {
					t.Fatalf("%s: %d and %d", said(l.Order()), a, b)
				}
				for c := range l.Order().Len() {
					if l.Join(ab, c) != l.Join(a, l.Join(b, c)) || l.Meet(m, c) != l.Meet(a, l.Meet(b, c)) || l.Meet(a, l.Join(b, c)) != l.Join(m, l.Meet(a, c)) || l.JoinAll([]int{a, b, c}) != l.Join(ab, c) {
						t.Fatalf("%s: %d, %d and %d", said(l.Order()), a, b, c)
					}
				}
			}
		}
	}
}

// TestMemory looks whether a call changes what it is handed, or reads what lies behind it, and whether what is done with the order changes a join.
func TestMemory(t *testing.T) {
	o := read(t, diamond)
	m := modelOf(o)
	l, _, _, _ := lattice.New(o)
	if got := modelOf(o); *got != *m {
		t.Fatal("the order is another one")
	}
	s := []int{1, 0, 2, 99, -1}
	if got := l.JoinAll(s[:2]); got != 1 || !slices.Equal(s, []int{1, 0, 2, 99, -1}) {
		t.Fatal(got, s)
	}
	m.hold(t, l, o)
	*l.Order() = order.Order{}
	m.hold(t, l, o)
	other := read(t, "z < y; y < x")
	*o = *other
	m.hold(t, l, o)
	chain, _, _, e := lattice.New(o)
	if e != api.OK || chain.Join(0, 2) != 2 || chain.Bottom() != 0 || chain.Top() != 2 {
		t.Fatal(e)
	}
	m.hold(t, l, o)
}

// TestOneAnswer asks the same again and again.
func TestOneAnswer(t *testing.T) {
	good, bad := read(t, "top; a < ab; b < ab; ab < top; bot < a; bot < b"), read(t, "t; x < t; y < t; z < t; b < x; b < y; b < z")
	for range 100 {
		check(t, good)
		if l, a, b, e := lattice.New(bad); l != nil || a != 1 || b != 2 || e != api.ErrLattice {
			t.Fatal(a, b, e)
		}
	}
}
