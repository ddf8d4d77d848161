package order_test

import (
	"math/bits"
	"slices"
	"strings"
	"testing"

	"blazon/api"
	"blazon/order"
)

// made is the order of what is said.
func made(t *testing.T, s string) *order.Order {
	t.Helper()
	o, at, e := order.New(pairs(s))
	if o == nil || at != 0 || e != api.OK {
		t.Fatalf("%s: %d at %d", s, e, at)
	}
	return o
}

// alone are so many names without a pair.
func alone(n int) []api.Pair {
	var l []api.Pair
	for i := range n {
		l = append(l, api.Pair{Low: name(i)})
	}
	return l
}

func TestExamples(t *testing.T) {
	o := made(t, "a < b; b < c")
	if o.Below(2) != 7 || o.Below(1) != 3 || o.Below(0) != 1 || o.Above(0) != 7 || o.Above(1) != 6 || o.Above(2) != 4 {
		t.Error(o.Below(2), o.Below(1), o.Below(0), o.Above(0), o.Above(1), o.Above(2))
	}
	if o, at, e := order.New(pairs("a < b; b < a")); o != nil || at != 0 || e != api.ErrOrder {
		t.Error(o, at, e)
	}
}

// TestNumbers: they are given in the order in which names come first, Low ahead of High.
func TestNumbers(t *testing.T) {
	for s, want := range map[string]string{
		"a": "a", "b < a": "b a", "a < b; c < a": "a b c", "c < b; a < b": "c b a", "x; a < x; b; b < a": "x a b", "b; b; a; b": "b a", "a < b; a < b": "a b",
		"z < y; x < y; z < w; v": "z y x w v", "a < B; A < B; b < B": "a B A b", "iff < Let; _ < __": "iff Let _ __",
	} {
		o := made(t, s)
		var l []string
		for i := range o.Len() {
			l = append(l, o.Name(i))
			if n, ok := o.Find(o.Name(i)); n != i || !ok {
				t.Errorf("%s: %s is %d, %v", s, o.Name(i), n, ok)
			}
		}
		if got := strings.Join(l, " "); got != want {
			t.Errorf("%s: %s, not %s", s, got, want)
		}
	}
}

func TestSorted(t *testing.T) {
	for s, want := range map[string]string{
		"a": "a", "a; b; c": "a b c", "b < a": "b a", "c < b; b < a": "c b a", "a < b; c < b; c < a": "c a b",
		"top; bot < l; bot < r; l < top; r < top": "bot l r top", "top; bot < r; bot < l; l < top; r < top": "bot r l top",
		"x < a; b; c < b": "x a c b", "d < c; b < a": "d c b a", "a; z < y; y < b; c": "a z y b c", "b < a; d < c; d < a": "b d a c",
	} {
		o := made(t, s)
		var l []string
		for _, i := range o.Sorted() {
			l = append(l, o.Name(i))
		}
		if got := strings.Join(l, " "); got != want {
			t.Errorf("%s: %s, not %s", s, got, want)
		}
	}
}

func TestErrors(t *testing.T) {
	long, longer := strings.Repeat("x", 24), strings.Repeat("x", 25)
	for _, c := range []struct {
		s  string
		at int
		e  api.Errno
	}{
		{long, 0, api.OK}, {"a < " + long, 0, api.OK}, {longer, 0, api.ErrArg}, {"a < " + longer, 0, api.ErrArg}, {longer + " < a", 0, api.ErrArg},
		{"a; b < c; c < 1", 2, api.ErrArg}, {"a; b < c; 1 < c", 2, api.ErrArg}, {"a; ; if", 1, api.ErrArg}, {"a; if; ", 1, api.ErrArg}, {" < a", 0, api.ErrArg}, {"", 0, api.ErrArg},
		{"a < a; b; if", 2, api.ErrArg}, {"a < b; b < a; c < fn", 2, api.ErrArg},
		{"a < a", 0, api.ErrOrder}, {"a; a < a", 1, api.ErrOrder}, {"a < b; b < b", 1, api.ErrOrder}, {"a < b; b < a", 0, api.ErrOrder}, {"a; a < b; c; b < a", 1, api.ErrOrder},
		{"a < b; b < c; c < a", 0, api.ErrOrder}, {"x < a; a < b; b < c; c < a", 1, api.ErrOrder}, {"a < x; a < b; b < a; x < y", 1, api.ErrOrder},
		{"a < x; x < y; c < b; d < c; b < d", 2, api.ErrOrder}, {"c < c; a < b; b < a", 0, api.ErrOrder}, {"a < b; b < a; c < c", 0, api.ErrOrder},
		{"a < b; a < c; b < d; c < d", 0, api.OK}, {"a < b; a < b; a < b", 0, api.OK}, {"a < b; b < c; a < c; a; c", 0, api.OK},
		{"a < b; b < c; c < d; e < d; d < b", 1, api.ErrOrder}, {"a < b; c < d; d < e; e < c; b < a", 0, api.ErrOrder},
	} {
		o, at, e := order.New(pairs(c.s))
		if (o == nil) != (c.e != api.OK) || at != c.at || e != c.e {
			t.Errorf("%s: %d at %d, not %d at %d", c.s, e, at, c.e, c.at)
		}
	}
}

// TestWrongNames has each text that is no identifier at both sides.
func TestWrongNames(t *testing.T) {
	words := strings.Fields("import lattice effects var fn let if else while return do true false int bool declassify")
	for _, s := range append(words, " ", "a ", " a", "a b", "1", "1a", "a-b", "a.b", "@a", "a#", "#", "a\n", "\x00", "a\x00", "é", "aé", "\xff", "<", "a<b", strings.Repeat("y", 1000)) {
		for _, p := range []api.Pair{{Low: s}, {Low: "a", High: s}, {Low: s, High: "a"}, {Low: s, High: s}, {Low: "n", High: s}, {Low: s, High: "n"}} {
			for _, ahead := range [][]api.Pair{nil, {{Low: "a"}}, {{Low: "a", High: "a"}}, alone(64)} {
				l := append(slices.Clone(ahead), p, api.Pair{Low: "if"})
				if o, at, e := order.New(l); o != nil || at != len(ahead) || e != api.ErrArg {
					t.Errorf("%q, %q behind %d: %d at %d", p.Low, p.High, len(ahead), e, at)
				}
			}
		}
	}
}

// TestFull has as many elements as may be, and more.
func TestFull(t *testing.T) {
	one := func(s string) api.Pair { return pairs(s)[0] }
	for _, c := range []struct {
		n    int
		next []api.Pair
		at   int
		e    api.Errno
	}{
		{64, nil, 0, api.OK}, {65, nil, 64, api.ErrFull}, {70, nil, 64, api.ErrFull},
		{63, []api.Pair{one("a < b")}, 63, api.ErrFull}, {62, []api.Pair{one("a < b")}, 0, api.OK}, {62, []api.Pair{one("a < b"), one("b < a")}, 62, api.ErrOrder},
		{63, []api.Pair{one("a"), one("a")}, 0, api.OK}, {63, []api.Pair{one("a < a")}, 63, api.ErrOrder}, {63, []api.Pair{one("a"), one("a < b")}, 64, api.ErrFull},
		{63, []api.Pair{{Low: name(0), High: "a"}}, 0, api.OK}, {63, []api.Pair{{Low: "a", High: name(62)}}, 0, api.OK},
		{64, []api.Pair{{Low: name(0), High: name(63)}}, 0, api.OK}, {64, []api.Pair{{Low: name(63), High: name(0)}, {Low: name(63)}}, 0, api.OK},
		{64, []api.Pair{{Low: name(0), High: "a"}}, 64, api.ErrFull}, {64, []api.Pair{{Low: "a", High: name(0)}}, 64, api.ErrFull}, {64, []api.Pair{one("a < a")}, 64, api.ErrFull},
		{64, []api.Pair{{Low: name(5), High: name(5)}, one("a")}, 65, api.ErrFull}, {64, []api.Pair{{Low: name(5), High: name(5)}}, 64, api.ErrOrder},
		{64, []api.Pair{one("a"), one("if")}, 64, api.ErrFull}, {64, []api.Pair{one("if"), one("a")}, 64, api.ErrArg}, {64, []api.Pair{one("a < if")}, 64, api.ErrArg},
	} {
		l := append(alone(c.n), c.next...)
		o, at, e := order.New(l)
		if (o == nil) != (c.e != api.OK) || at != c.at || e != c.e {
			t.Errorf("%d, %s: %d at %d, not %d at %d", c.n, said(c.next), e, at, c.e, c.at)
		}
		check(t, l)
	}
}

// TestLongChains has 64 elements in a row, the pairs in several orders, so that what follows goes through all of them.
func TestLongChains(t *testing.T) {
	const n = 64
	for _, c := range []struct{ step, first int }{{1, 0}, {62, 0}, {5, 0}, {19, 7}, {31, 40}, {61, 11}} {
		var l []api.Pair
		for i := range n - 1 {
			k := (c.first + i*c.step) % (n - 1)
			l = append(l, api.Pair{Low: name(k), High: name(k + 1)})
		}
		check(t, l)
		o, _, _ := order.New(l)
		bottom, _ := o.Find(name(0))
		top, _ := o.Find(name(n - 1))
		if o.Above(bottom) != 1<<64-1 || o.Below(top) != 1<<64-1 || !o.Most(bottom, top) || o.Most(top, bottom) {
			t.Errorf("%+v: %x, %x", c, o.Above(bottom), o.Below(top))
		}
		for i, k := range o.Sorted() {
			if o.Name(k) != name(i) || bits.OnesCount64(o.Below(k)) != i+1 || bits.OnesCount64(o.Above(k)) != n-i {
				t.Errorf("%+v: the %d-th is %s", c, i, o.Name(k))
			}
		}
		ring := append(l, api.Pair{Low: name(n - 1), High: name(0)})
		if o, at, e := order.New(ring); o != nil || at != 0 || e != api.ErrOrder {
			t.Errorf("%+v: %d at %d", c, e, at)
		}
		check(t, append([]api.Pair{{Low: name(3)}}, ring...))
	}
}

// P13.3: to be at most is an order.
func TestIsAnOrder(t *testing.T) {
	for _, s := range []string{"a", "a; b", "a < b; b < c; a < d; d < e; c < e; x; y < x; y < e", "top; bot < l; bot < r; l < top; r < top"} {
		o := made(t, s)
		for a := range o.Len() {
			for b := range o.Len() {
				if a == b && !o.Most(a, a) || a != b && o.Most(a, b) && o.Most(b, a) {
					t.Errorf("%s: %d, %d", s, a, b)
				}
				if o.Most(a, b) != (o.Below(b)>>a&1 == 1) || o.Most(a, b) != (o.Above(a)>>b&1 == 1) {
					t.Errorf("%s: bits of %d, %d", s, a, b)
				}
				for c := range o.Len() {
					if o.Most(a, b) && o.Most(b, c) && !o.Most(a, c) {
						t.Errorf("%s: %d, %d, %d", s, a, b, c)
					}
				}
			}
		}
	}
}

// TestNone has an order that isn't there, the zero value, and one without elements.
func TestNone(t *testing.T) {
	empty, at, e := order.New(nil)
	if empty == nil || at != 0 || e != api.OK {
		t.Fatal(empty, at, e)
	}
	other, at, e := order.New([]api.Pair{})
	if other == nil || at != 0 || e != api.OK {
		t.Fatal(other, at, e)
	}
	for i, o := range []*order.Order{nil, new(order.Order), empty, other} {
		if o.Len() != 0 || len(o.Sorted()) != 0 {
			t.Errorf("%d: %d elements, %v", i, o.Len(), o.Sorted())
		}
		holdOutside(t, o, 0)
	}
}

// TestLongLists has far more pairs than there may be elements: only names are counted.
func TestLongLists(t *testing.T) {
	const n = 300000
	l := make([]api.Pair, n)
	for i := range l {
		low, high := i%63, 63
		l[i] = api.Pair{Low: name(low), High: name(high)}
	}
	o, at, e := order.New(l)
	if o.Len() != 64 || at != 0 || e != api.OK {
		t.Fatal(o.Len(), at, e)
	}
	for _, c := range []struct {
		p  api.Pair
		at int
		e  api.Errno
	}{{api.Pair{Low: "a"}, n - 1, api.ErrFull}, {api.Pair{Low: "if"}, n - 1, api.ErrArg}, {api.Pair{Low: name(1), High: name(1)}, n - 1, api.ErrOrder}, {api.Pair{Low: name(63), High: name(1)}, 1, api.ErrOrder}} {
		l[n-1] = c.p
		if o, at, e := order.New(l); o != nil || at != c.at || e != c.e {
			t.Errorf("%v: %d at %d", c.p, e, at)
		}
	}
}

// TestMemory looks whether New changes what it is handed or reads what lies behind it, and whether an answer hangs on what is done with it, or with another answer.
func TestMemory(t *testing.T) {
	l := pairs("d < c; b < a; a < c; a < d; d < b; c < b")
	old := slices.Clone(l)
	want := "d c b a"
	o, _, e := order.New(l[:3:5])
	if e != api.OK || !slices.Equal(l, old) {
		t.Fatal(e, said(l))
	}
	m, _, _ := modelOf(old[:3])
	m.hold(t, o)
	clear(l)
	m.hold(t, o)
	s := o.Sorted()
	first := slices.Clone(s)
	for i := range s[:cap(s)] {
		s[:cap(s)][i] = -7
	}
	s = append(s, 9)
	again := o.Sorted()
	if !slices.Equal(again, first) || len(s) != 5 {
		t.Fatal(again, first)
	}
	copied := *o
	other := made(t, "a < d; x")
	m.hold(t, o)
	m.hold(t, &copied)
	if other.Len() != 3 || other.Below(1) != 3 || other.Name(2) != "x" {
		t.Fatal(other.Len(), other.Below(1))
	}
	var names []string
	for i := range o.Len() {
		names = append(names, o.Name(i))
	}
	if got := strings.Join(names, " "); got != want {
		t.Fatal(got)
	}
}

// TestOneAnswer asks the same again and again.
func TestOneAnswer(t *testing.T) {
	l := pairs("g < c; a < c; e < a; b; d < b; f; c < h; d < h")
	o, _, _ := order.New(l)
	for range 200 {
		p, at, e := order.New(l)
		if at != 0 || e != api.OK || !slices.Equal(p.Sorted(), o.Sorted()) || p.Len() != o.Len() {
			t.Fatal(at, e)
		}
		for i := range o.Len() {
			if p.Name(i) != o.Name(i) || p.Below(i) != o.Below(i) || p.Above(i) != o.Above(i) {
				t.Fatal(i)
			}
		}
	}
	bad := append(slices.Clone(l), pairs("h < d; c < g")...)
	for range 200 {
		if p, at, e := order.New(bad); p != nil || at != 0 || e != api.ErrOrder {
			t.Fatal(at, e)
		}
	}
}
