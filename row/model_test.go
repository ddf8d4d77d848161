package row_test

import (
	"math/rand/v2"
	"slices"
	"strings"
	"testing"

	"blazon/api"
	"blazon/row"
)

// A model is a table by its names alone, without a map and bits: each is looked for in the list, and a set is a list of truths.
type model []string

// The names that tests make models of; every other one is none.
func good(name string) bool {
	return len(name) > 0 && len(name) < 5 && strings.Trim(name, "abcdexyz_0123456789") == "" && (name[0] < '0' || name[0] > '9')
}

// tell says what a list comes to, as the chapter does: name by name.
func tell(l []api.Name) (m model, at int, e api.Errno) {
	for i, n := range l {
		switch {
		case !good(n.Name):
			return nil, i, api.ErrArg
		case slices.Contains(m, n.Name):
			return nil, i, api.ErrThere
		case len(m) == 64:
			return nil, i, api.ErrFull
		}
		m = append(m, n.Name)
	}
	return m, 0, api.OK
}

func modelOf(t *testing.T, l []api.Name) model {
	t.Helper()
	m, at, e := tell(l)
	if e != api.OK {
		t.Fatal(at, e)
	}
	return m
}

// has says of each of 64 places whether it is in a set, by dividing.
func has(set uint64) [64]bool {
	var l [64]bool
	for i := range l {
		l[i] = set%2 == 1
		set /= 2
	}
	return l
}

// set is what a row comes to.
func (m model) set(l []api.Name) (in [64]bool, at int, e api.Errno) {
	for i, n := range l {
		k := slices.Index(m, n.Name)
		if k < 0 {
			return [64]bool{}, i, api.ErrName
		}
		in[k] = true
	}
	return in, 0, api.OK
}

func (m model) names(set uint64) []string {
	var l []string
	for i, in := range has(set) {
		if in && i < len(m) {
			l = append(l, m[i])
		}
	}
	return l
}

// hold asks a table for all that the model says of itself.
func (m model) hold(t *testing.T, x *row.Table) {
	t.Helper()
	if x.Len() != len(m) {
		t.Fatalf("%v: %d", m, x.Len())
	}
	for i, n := range m {
		if got, ok := x.Find(n); got != i || !ok {
			t.Fatalf("%v: %s is %d, %t", m, n, got, ok)
		}
	}
	for _, n := range []string{"", "q", "if", "no", "A", "e100"} {
		if got, ok := x.Find(n); got != 0 || ok {
			t.Fatalf("%v: %q is %d, %t", m, n, got, ok)
		}
	}
	w := rand.New(rand.NewPCG(16, uint64(len(m))))
	for _, set := range append([]uint64{0, 1<<64 - 1, 1 << 63}, w.Uint64(), w.Uint64()&w.Uint64(), w.Uint64()%256) {
		m.holdNames(t, x, set)
	}
}

// holdNames: the names of a set, and the set of these, which is what of it there is.
func (m model) holdNames(t *testing.T, x *row.Table, set uint64) {
	t.Helper()
	got := x.Names(set)
	if !slices.Equal(got, m.names(set)) {
		t.Fatalf("%v: %b: %v", m, set, got)
	}
	var l []api.Name
	for _, n := range got {
		l = append(l, api.Name{Name: n})
	}
	back, at, e := x.Set(l)
	if e != api.OK || at != 0 || !row.Within(back, set) || row.Count(back) != len(got) || !slices.Equal(x.Names(back), got) {
		t.Fatalf("%v: %b: %b back, %d at %d", m, set, back, e, at)
	}
}

// holdSet: what a row comes to, and (P16.3) that the names of its set are its own, each once.
func (m model) holdSet(t *testing.T, x *row.Table, l []api.Name) {
	t.Helper()
	set, at, e := x.Set(l)
	in, wantAt, want := m.set(l)
	if has(set) != in || at != wantAt || e != want {
		t.Fatalf("%v, %v: %b, %d at %d, not %d at %d", m, l, set, e, at, want, wantAt)
	}
	if e != api.OK {
		return
	}
	var own []string
	for _, n := range l {
		own = append(own, n.Name)
	}
	slices.Sort(own)
	own = slices.Compact(own)
	got := x.Names(set)
	slices.Sort(got)
	if !slices.Equal(got, own) || row.Count(set) != len(own) {
		t.Fatalf("%v, %v: %b, %v", m, l, set, got)
	}
}

// check holds what New answers against the model.
func check(t *testing.T, l []api.Name) (model, *row.Table) {
	t.Helper()
	old := slices.Clone(l)
	x, at, e := row.New(l)
	m, wantAt, want := tell(l)
	if (x == nil) != (want != api.OK) || at != wantAt || e != want || !slices.Equal(l, old) {
		t.Fatalf("%v: %d at %d, not %d at %d", l, e, at, want, wantAt)
	}
	m.hold(t, x)
	return m, x
}

// lists are all those of up to n of these names.
func lists(n int, of ...string) [][]api.Name {
	all := [][]api.Name{nil}
	for from := 0; n > 0; n-- {
		to := len(all)
		for _, l := range all[from:to] {
			for i, s := range of {
				all = append(all, append(slices.Clone(l), api.Name{Name: s, At: i - 1}))
			}
		}
		from = to
	}
	return all
}

// TestAllTables has all lists of up to four names, wrong ones too, and of each table all rows of up to three.
func TestAllTables(t *testing.T) {
	rows := lists(3, "a", "b", "c", "d", "", "if")
	for _, l := range lists(4, "a", "b", "c", "d", "if", "") {
		m, x := check(t, l)
		for set := range uint64(32) {
			m.holdNames(t, x, set)
		}
		for _, r := range rows {
			m.holdSet(t, x, r)
		}
	}
}

// TestDrawn has drawn lists of many names, some twice, some wrong, and drawn rows.
func TestDrawn(t *testing.T) {
	w := rand.New(rand.NewPCG(16, 2))
	for range 3000 {
		l := many(100)
		w.Shuffle(len(l), func(i, j int) { l[i], l[j] = l[j], l[i] })
		l = l[:w.IntN(75)]
		if len(l) > 0 && w.IntN(3) == 0 {
			l[w.IntN(len(l))].Name = []string{"if", "", "1", l[w.IntN(len(l))].Name}[w.IntN(4)]
		}
		m, x := check(t, l)
		for range 10 {
			r := make([]api.Name, w.IntN(100))
			for i := range r {
				r[i].Name = numbered(w.IntN(100))
				if len(m) > 0 && w.IntN(40) > 0 {
					r[i].Name = m[w.IntN(len(m))]
				}
				r[i].At = w.IntN(3)
			}
			m.holdSet(t, x, r)
			m.holdNames(t, x, w.Uint64())
			m.holdNames(t, x, w.Uint64()&w.Uint64()&w.Uint64())
		}
	}
}

// TestSetsAlone holds Within and Count, which ask no table, against truths one by one.
func TestSetsAlone(t *testing.T) {
	w := rand.New(rand.NewPCG(16, 3))
	sets := []uint64{0, 1<<64 - 1, 1 << 63, 1<<63 - 1, 1<<32 - 1, 1 << 32}
	for i := range uint64(64) {
		sets = append(sets, i, 1<<i, ^(1 << i), w.Uint64(), w.Uint64()&w.Uint64(), w.Uint64()|w.Uint64())
	}
	for _, a := range sets {
		n := 0
		for _, in := range has(a) {
			if in {
				n++
			}
		}
		if row.Count(a) != n {
			t.Errorf("%b: %d, not %d", a, row.Count(a), n)
		}
		for _, b := range append(sets, a|w.Uint64(), a|w.Uint64()&w.Uint64(), a&^(1<<w.IntN(64))) {
			want := true
			other := has(b)
			for i, in := range has(a) {
				want = want && (!in || other[i])
			}
			if row.Within(a, b) != want {
				t.Errorf("%b within %b: %t", a, b, row.Within(a, b))
			}
		}
	}
}
