package order_test

import (
	"math"
	"math/rand/v2"
	"slices"
	"strings"
	"testing"

	"blazon/api"
	"blazon/order"
)

// A model is an order by its names and pairs alone, without numbers and bits: what follows is found by walking from name to name, and anew each time.
type model struct {
	names []string
	ups   map[string][]string
}

// The names that tests use; every other one is none.
func good(name string) bool {
	return name == strings.Repeat("x", 24) || len(name) > 0 && len(name) < 4 && strings.Trim(name, "abcdevxyz_0123456789") == "" && (name[0] < '0' || name[0] > '9')
}

// modelOf says what a list of pairs comes to, as the chapter does: pair by pair, and behind them pair by pair again.
func modelOf(l []api.Pair) (m model, at int, e api.Errno) {
	m.ups = map[string][]string{}
	for i, p := range l {
		names := []string{p.Low}
		if p.High != "" {
			names = append(names, p.High)
		}
		for _, n := range names {
			if !good(n) {
				return model{}, i, api.ErrArg
			}
		}
		for _, n := range names {
			if !slices.Contains(m.names, n) {
				m.names = append(m.names, n)
			}
		}
		if len(m.names) > 64 {
			return model{}, i, api.ErrFull
		}
		if p.High != "" {
			m.ups[p.Low] = append(m.ups[p.Low], p.High)
		}
	}
	for i, p := range l {
		if p.High != "" && (p.High == p.Low || slices.Contains(m.walk(p.High), p.Low) && slices.Contains(m.walk(p.Low), p.High)) {
			return model{}, i, api.ErrOrder
		}
	}
	return m, 0, api.OK
}

// walk goes up from a name, step by step; the name itself is the first one.
func (m model) walk(from string) []string {
	seen := []string{from}
	for i := 0; i < len(seen); i++ {
		for _, n := range m.ups[seen[i]] {
			if !slices.Contains(seen, n) {
				seen = append(seen, n)
			}
		}
	}
	return seen
}

// sorted takes, time by time, the first name that nothing but what was taken is at most.
func (m model) sorted(ups [][]string) []int {
	var l []int
	for range m.names {
		for i, n := range m.names {
			free := !slices.Contains(l, i)
			for j := range m.names {
				if i != j && slices.Contains(ups[j], n) && !slices.Contains(l, j) {
					free = false
				}
			}
			if free {
				l = append(l, i)
				break
			}
		}
	}
	return l
}

// outside are numbers that no order of n elements has.
func outside(n int) []int {
	return []int{-1, -2, -64, -65, math.MinInt, math.MinInt + 1, n, n + 1, 64, 65, 127, 128, 1 << 32, 1<<32 + 1, math.MaxInt}
}

// hold holds all that an order answers against the model.
func (m model) hold(t *testing.T, o *order.Order) {
	t.Helper()
	n := len(m.names)
	if o == nil || o.Len() != n {
		t.Fatalf("%d elements, not %d", o.Len(), n)
	}
	var ups [][]string
	for _, a := range m.names {
		ups = append(ups, m.walk(a))
	}
	for i, a := range m.names {
		if got, ok := o.Find(a); o.Name(i) != a || got != i || !ok {
			t.Fatalf("%d: %q, which is %d, %v; not %q", i, o.Name(i), got, ok, a)
		}
		var below, above uint64
		for j, b := range m.names {
			if slices.Contains(ups[i], b) {
				above |= 1 << j
			}
			if slices.Contains(ups[j], a) {
				below |= 1 << j
			}
			if got, want := o.Most(i, j), slices.Contains(ups[i], b); got != want {
				t.Fatalf("%s at most %s: %v", a, b, got)
			}
		}
		if o.Below(i) != below || o.Above(i) != above {
			t.Fatalf("%s: below %x, not %x; above %x, not %x", a, o.Below(i), below, o.Above(i), above)
		}
	}
	if got, want := o.Sorted(), m.sorted(ups); !slices.Equal(got, want) {
		t.Fatalf("sorted %v, not %v", got, want)
	}
	holdOutside(t, o, n)
}

func holdOutside(t *testing.T, o *order.Order, n int) {
	t.Helper()
	for _, i := range outside(n) {
		if o.Name(i) != "" || o.Below(i) != 0 || o.Above(i) != 0 || o.Most(i, i) {
			t.Fatalf("%d is an element", i)
		}
		for j := range n {
			if o.Most(i, j) || o.Most(j, i) {
				t.Fatalf("%d and %d", i, j)
			}
		}
	}
	for _, name := range []string{"", "no", "no such", "if", "A", "a ", strings.Repeat("x", 25), "\x00"} {
		if i, ok := o.Find(name); i != 0 || ok {
			t.Fatalf("%q is %d", name, i)
		}
	}
}

// check holds New, and all that its answer answers, against the model.
func check(t *testing.T, l []api.Pair) {
	t.Helper()
	m, wantAt, want := modelOf(l)
	o, at, e := order.New(l)
	if at != wantAt || e != want || (o == nil) != (e != api.OK) {
		t.Fatalf("%s: %d at %d, not %d at %d", said(l), e, at, want, wantAt)
	}
	if e == api.OK {
		m.hold(t, o)
	}
}

// said is a list of pairs as a text.
func said(l []api.Pair) string {
	var s []string
	for _, p := range l {
		if p.High == "" {
			s = append(s, p.Low)
		} else {
			s = append(s, p.Low+" < "+p.High)
		}
	}
	return strings.Join(s, "; ")
}

// pairs reads what said says.
func pairs(s string) []api.Pair {
	var l []api.Pair
	for i, x := range strings.Split(s, "; ") {
		low, high, _ := strings.Cut(x, " < ")
		l = append(l, api.Pair{Low: low, High: high, At: 1000 - i})
	}
	return l
}

// name is one of many names; their places in the alphabet have nothing to do with their numbers.
func name(i int) string {
	const letters = "zvxbdaey"
	return letters[i%8:i%8+1] + letters[i/8%8:i/8%8+1] + letters[i/64%8:i/64%8+1]
}

// all goes through all lists of n pairs of these.
func all(these []api.Pair, n int, one func(l []api.Pair)) {
	l := make([]api.Pair, n)
	var from func(i int)
	from = func(i int) {
		if i == n {
			one(l)
			return
		}
		for _, p := range these {
			l[i] = p
			from(i + 1)
		}
	}
	from(0)
}

// of makes all pairs of these names.
func of(lows, highs []string) []api.Pair {
	var l []api.Pair
	for _, low := range lows {
		for _, high := range highs {
			l = append(l, api.Pair{Low: low, High: high})
		}
	}
	return l
}

func TestAllListsOfThreeNames(t *testing.T) {
	these := of([]string{"a", "b", "c"}, []string{"", "a", "b", "c"})
	for n := range 5 {
		all(these, n, func(l []api.Pair) { check(t, l) })
	}
}

func TestAllListsWithWrongNames(t *testing.T) {
	these := of([]string{"a", "b", "", "if", "2"}, []string{"", "a", "b", "else", "a b"})
	for n := range 4 {
		all(these, n, func(l []api.Pair) { check(t, l) })
	}
}

// TestAllOrdersOfFive has every way in which four and five names may be below one another by what their numbers allow, and the pairs' names come first in another order.
func TestAllOrdersOfFive(t *testing.T) {
	names := []string{"c", "a", "e", "b", "d"}
	for n := 4; n <= 5; n++ {
		var these []api.Pair
		for i := range n {
			for j := range i {
				these = append(these, api.Pair{Low: names[i], High: names[j]})
			}
		}
		for some := range 1 << len(these) {
			var l []api.Pair
			for i, p := range these {
				if some>>i&1 == 1 {
					l = append(l, p)
				}
			}
			l = append(l, api.Pair{Low: "d"}, api.Pair{Low: "e"})
			check(t, l)
		}
	}
}

func TestDrawnOrders(t *testing.T) {
	w := rand.New(rand.NewPCG(13, 1))
	for n := range 1500 {
		count := 1 + w.IntN(64)
		rank := w.Perm(count)
		var l []api.Pair
		for range w.IntN(3 * count) {
			a, b := w.IntN(count), w.IntN(count)
			switch {
			case a == b || w.IntN(8) == 0:
				l = append(l, api.Pair{Low: name(a)})
			case rank[a] < rank[b] || n%5 == 0 && w.IntN(20) == 0:
				l = append(l, api.Pair{Low: name(a), High: name(b)})
			default:
				l = append(l, api.Pair{Low: name(b), High: name(a)})
			}
		}
		check(t, l)
	}
}

// TestDrawnLists has names of any kind, and more of them than there may be.
func TestDrawnLists(t *testing.T) {
	w := rand.New(rand.NewPCG(13, 2))
	one := func() string {
		if w.IntN(150) == 0 {
			return []string{"", "if", "1a", "a-b", " a", strings.Repeat("x", 24), strings.Repeat("x", 25), "a\n", "\xff"}[w.IntN(9)]
		}
		return name(w.IntN(90))
	}
	seen := map[api.Errno]int{}
	for range 3000 {
		l := make([]api.Pair, w.IntN(110))
		for i := range l {
			l[i].Low = one()
			if w.IntN(3) == 0 {
				l[i].High = one()
			}
		}
		check(t, l)
		_, _, e := order.New(l)
		seen[e]++
	}
	for _, e := range []api.Errno{api.OK, api.ErrArg, api.ErrFull, api.ErrOrder} {
		if seen[e] < 20 {
			t.Errorf("%d: drawn %d times", e, seen[e])
		}
	}
}
