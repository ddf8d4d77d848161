package row_test

import (
	"slices"
	"strconv"
	"strings"
	"testing"

	"blazon/api"
	"blazon/row"
)

// names are those of a text, with blanks between; where they stand is far from their places in the list.
func names(s string) []api.Name {
	var l []api.Name
	for i, n := range strings.Fields(s) {
		l = append(l, api.Name{Name: n, At: 1000 - 7*i})
	}
	return l
}

// many are so many names.
func many(n int) []api.Name {
	var l []api.Name
	for i := range n {
		l = append(l, api.Name{Name: numbered(i)})
	}
	return l
}

func numbered(i int) string { return "e" + strconv.Itoa(i) }

// made is the table of what is said.
func made(t *testing.T, l []api.Name) *row.Table {
	t.Helper()
	x, at, e := row.New(l)
	if x == nil || at != 0 || e != api.OK {
		t.Fatalf("%d names: %d at %d", len(l), e, at)
	}
	return x
}

func TestExample(t *testing.T) {
	x := made(t, names("net log"))
	if set, at, e := x.Set(names("log")); set != 2 || at != 0 || e != api.OK {
		t.Error(set, at, e)
	}
	if l := x.Names(3); !slices.Equal(l, []string{"net", "log"}) {
		t.Error(l)
	}
}

// TestNumbers: effects have them in the order of the list, not of their names.
func TestNumbers(t *testing.T) {
	for _, s := range []string{"a", "a b", "b a", "net log io", "io log net", "A a _ _a __ a_ a1 iff Int d_o", strings.Repeat("x", 24) + " x"} {
		x := made(t, names(s))
		l := strings.Fields(s)
		if x.Len() != len(l) {
			t.Errorf("%s: %d", s, x.Len())
		}
		for i, n := range l {
			if got, ok := x.Find(n); got != i || !ok {
				t.Errorf("%s: %s is %d, %t", s, n, got, ok)
			}
			if got := x.Names(1 << i); !slices.Equal(got, []string{n}) {
				t.Errorf("%s: the %d-th is %q", s, i, got)
			}
		}
		for _, n := range []string{"", " ", "c", "B", "ne", "nett", " net", "net ", "if", "\x00", strings.Repeat("x", 23), strings.Repeat("x", 25)} {
			if got, ok := x.Find(n); got != 0 || ok {
				t.Errorf("%s: %q is %d, %t", s, n, got, ok)
			}
		}
	}
}

// TestErrors: name by name; of what holds at one the first is told.
func TestErrors(t *testing.T) {
	for _, c := range []struct {
		s  string
		at int
		e  api.Errno
	}{
		{"if", 0, api.ErrArg}, {"a if", 1, api.ErrArg}, {"a b 1", 2, api.ErrArg}, {"if if", 0, api.ErrArg}, {"a a", 1, api.ErrThere}, {"a b a", 2, api.ErrThere}, {"a b b", 2, api.ErrThere}, {"a a a", 1, api.ErrThere},
		{"a a if", 1, api.ErrThere}, {"a if a", 1, api.ErrArg}, {"a b c b c if", 3, api.ErrThere}, {"a A _a", 0, api.OK},
		{strings.Repeat("x", 24), 0, api.OK}, {strings.Repeat("x", 25), 0, api.ErrArg}, {"a " + strings.Repeat("x", 25), 1, api.ErrArg}, {"x " + strings.Repeat("x", 24) + " x", 2, api.ErrThere},
	} {
		x, at, e := row.New(names(c.s))
		if (x == nil) != (c.e != api.OK) || at != c.at || e != c.e {
			t.Errorf("%s: %d at %d, not %d at %d", c.s, e, at, c.e, c.at)
		}
	}
}

// TestFull has as many effects as there may be, and more.
func TestFull(t *testing.T) {
	for _, c := range []struct {
		n    int
		next string
		at   int
		e    api.Errno
	}{
		{63, "", 0, api.OK}, {64, "", 0, api.OK}, {65, "", 64, api.ErrFull}, {70, "", 64, api.ErrFull}, {63, "a", 0, api.OK}, {63, "a b", 64, api.ErrFull}, {63, "a a", 64, api.ErrThere},
		{64, "a", 64, api.ErrFull}, {64, "a a", 64, api.ErrFull}, {64, "a if", 64, api.ErrFull}, {64, "a e0", 64, api.ErrFull},
		{64, "if", 64, api.ErrArg}, {64, "if a", 64, api.ErrArg}, {64, "e0", 64, api.ErrThere}, {64, "e63", 64, api.ErrThere}, {64, "e63 a", 64, api.ErrThere}, {64, "e64", 64, api.ErrFull},
		{63, "e62", 63, api.ErrThere}, {63, "if", 63, api.ErrArg},
	} {
		l := append(many(c.n), names(c.next)...)
		x, at, e := row.New(l)
		if (x == nil) != (c.e != api.OK) || at != c.at || e != c.e {
			t.Errorf("%d, %s: %d at %d, not %d at %d", c.n, c.next, e, at, c.e, c.at)
		}
		check(t, l)
	}
}

// TestWrongNames has each text that is no identifier: a table can't be made of it, and a set has no place for it.
func TestWrongNames(t *testing.T) {
	words := strings.Fields("import lattice effects var fn let if else while return do true false int bool declassify")
	for _, s := range append(words, "", " ", "a ", " a", "a b", "1", "1a", "a-b", "a.b", "@a", "a#", "#", "a\n", "\x00", "a\x00", "é", "aé", "\xff", "<", "a,b", strings.Repeat("y", 1000)) {
		for _, ahead := range [][]api.Name{nil, names("a"), names("a b"), many(63), many(64)} {
			for _, behind := range [][]api.Name{nil, names("a"), names("z if")} {
				l := slices.Concat(ahead, []api.Name{{Name: s}}, behind)
				if x, at, e := row.New(l); x != nil || at != len(ahead) || e != api.ErrArg {
					t.Errorf("%q behind %d: %d at %d", s, len(ahead), e, at)
				}
				if set, at, e := made(t, ahead).Set(l); set != 0 || at != len(ahead) || e != api.ErrName {
					t.Errorf("%q behind %d: %b, %d at %d", s, len(ahead), set, e, at)
				}
			}
		}
	}
}

func TestSet(t *testing.T) {
	x := made(t, names("net log io"))
	for _, c := range []struct {
		s   string
		set uint64
		at  int
		e   api.Errno
	}{
		{"", 0, 0, api.OK}, {"net", 1, 0, api.OK}, {"log", 2, 0, api.OK}, {"io", 4, 0, api.OK}, {"io net", 5, 0, api.OK}, {"log net", 3, 0, api.OK}, {"io log net", 7, 0, api.OK},
		{"log log", 2, 0, api.OK}, {"io net io net io", 5, 0, api.OK}, {"net net log log net log", 3, 0, api.OK},
		{"z", 0, 0, api.ErrName}, {"net z", 0, 1, api.ErrName}, {"z net", 0, 0, api.ErrName}, {"net net z io", 0, 2, api.ErrName}, {"net z log y", 0, 1, api.ErrName}, {"net log io Net", 0, 3, api.ErrName}, {"net if", 0, 1, api.ErrName}, {"if z", 0, 0, api.ErrName},
	} {
		if set, at, e := x.Set(names(c.s)); set != c.set || at != c.at || e != c.e {
			t.Errorf("%s: %b, %d at %d; not %b, %d at %d", c.s, set, e, at, c.set, c.e, c.at)
		}
	}
}

func TestNames(t *testing.T) {
	x := made(t, names("net log io"))
	for set, want := range map[uint64]string{
		0: "", 1: "net", 2: "log", 3: "net log", 4: "io", 5: "net io", 6: "log io", 7: "net log io",
		// Of those that there aren't nothing is told.
		8: "", 9: "net", 1 << 63: "", 1<<63 | 4: "io", 1<<32 | 2: "log", 1<<35 | 1<<33: "", 1<<64 - 1: "net log io", 1<<64 - 8: "",
	} {
		if l := x.Names(set); strings.Join(l, " ") != want || len(l) != len(strings.Fields(want)) {
			t.Errorf("%b: %q, not %s", set, l, want)
		}
	}
}

// TestAll has all effects that there can be, each one's bit too.
func TestAll(t *testing.T) {
	l := many(64)
	x := made(t, l)
	if set, at, e := x.Set(l); set != 1<<64-1 || at != 0 || e != api.OK || x.Len() != 64 {
		t.Error(x.Len(), set, at, e)
	}
	if set, at, e := x.Set(append(l, names("z")...)); set != 0 || at != 64 || e != api.ErrName {
		t.Error(set, at, e)
	}
	for i := range 64 {
		if set, at, e := x.Set(l[i : i+1]); set != 1<<i || at != 0 || e != api.OK {
			t.Error(i, set, at, e)
		}
		if got := x.Names(1 << i); !slices.Equal(got, []string{numbered(i)}) {
			t.Error(i, got)
		}
	}
	if got := x.Names(1<<64 - 1); len(got) != 64 || got[0] != "e0" || got[31] != "e31" || got[63] != "e63" {
		t.Error(got)
	}
}

func TestWithin(t *testing.T) {
	for _, c := range []struct {
		a, b uint64
		want bool
	}{
		{0, 0, true}, {0, 1, true}, {1, 0, false}, {1, 1, true}, {1, 5, true}, {2, 5, false}, {4, 5, true}, {5, 5, true}, {5, 4, false}, {5, 7, true}, {7, 5, false}, {6, 5, false}, {3, 12, false}, {12, 3, false}, {1, 2, false}, {2, 1, false},
		{1 << 63, 1 << 63, true}, {1 << 63, 1<<63 - 1, false}, {1<<63 - 1, 1 << 63, false}, {1 << 63, 1<<64 - 1, true}, {1<<64 - 1, 1<<64 - 1, true}, {1<<64 - 1, 1<<64 - 2, false}, {0, 1<<64 - 1, true}, {1<<64 - 1, 0, false}, {1 << 32, 1, false}, {1, 1 << 32, false},
	} {
		if got := row.Within(c.a, c.b); got != c.want {
			t.Errorf("%b within %b: %t", c.a, c.b, got)
		}
	}
}

func TestCount(t *testing.T) {
	for set, want := range map[uint64]int{0: 0, 1: 1, 2: 1, 3: 2, 5: 2, 7: 3, 8: 1, 255: 8, 1 << 31: 1, 1 << 32: 1, 1<<32 - 1: 32, 1 << 63: 1, 1<<63 | 1: 2, 1<<63 - 1: 63, 1<<64 - 1: 64, 0x5555555555555555: 32} {
		if got := row.Count(set); got != want {
			t.Errorf("%b: %d, not %d", set, got, want)
		}
	}
}

// TestNone has a table that isn't there, the zero value, and one without effects.
func TestNone(t *testing.T) {
	for i, x := range []*row.Table{nil, new(row.Table), made(t, nil), made(t, []api.Name{})} {
		if x.Len() != 0 {
			t.Errorf("%d: %d effects", i, x.Len())
		}
		for _, n := range []string{"", "a", "if", "net"} {
			if got, ok := x.Find(n); got != 0 || ok {
				t.Errorf("%d: %q is %d, %t", i, n, got, ok)
			}
			if set, at, e := x.Set([]api.Name{{Name: n, At: 9}, {}}); set != 0 || at != 0 || e != api.ErrName {
				t.Errorf("%d: %q: %b, %d at %d", i, n, set, e, at)
			}
		}
		for _, l := range [][]api.Name{nil, {}} {
			if set, at, e := x.Set(l); set != 0 || at != 0 || e != api.OK {
				t.Errorf("%d: %b, %d at %d", i, set, e, at)
			}
		}
		for _, set := range []uint64{0, 1, 2, 1 << 63, 1<<64 - 1} {
			if l := x.Names(set); len(l) != 0 {
				t.Errorf("%d: %b: %q", i, set, l)
			}
		}
	}
}

// TestLongRows has far more names than there are effects: a set takes each as often as it comes.
func TestLongRows(t *testing.T) {
	const n = 300000
	x := made(t, many(64))
	l := make([]api.Name, n)
	for i := range l {
		l[i] = api.Name{Name: numbered(i % 63)}
	}
	if set, at, e := x.Set(l); set != 1<<63-1 || at != 0 || e != api.OK {
		t.Error(set, at, e)
	}
	l[n-1].Name = "z"
	if set, at, e := x.Set(l); set != 0 || at != n-1 || e != api.ErrName {
		t.Error(set, at, e)
	}
	if x, at, e := row.New(l); x != nil || at != 63 || e != api.ErrThere {
		t.Error(at, e)
	}
}

// TestMemory looks whether a call changes what it is handed or reads what lies behind it, and whether an answer hangs on what is done with it, or with another answer.
func TestMemory(t *testing.T) {
	l := names("c a b if a")
	old := slices.Clone(l)
	x, _, e := row.New(l[:3:5])
	if e != api.OK || !slices.Equal(l, old) {
		t.Fatal(e, l)
	}
	m := modelOf(t, old[:3])
	m.hold(t, x)
	r := names("b c z")
	if set, at, e := x.Set(r[:2:3]); set != 5 || at != 0 || e != api.OK || !slices.Equal(r, names("b c z")) {
		t.Error(set, at, e, r)
	}
	clear(l)
	m.hold(t, x)
	first := x.Names(7)
	for i := range first[:cap(first)] {
		first[:cap(first)][i] = "no"
	}
	first = append(first, "more")
	m.hold(t, x)
	copied := *x
	other := made(t, names("z"))
	m.hold(t, &copied)
	m.hold(t, x)
	*other = copied
	*x = row.Table{}
	m.hold(t, other)
	if x.Len() != 0 || len(x.Names(7)) != 0 || len(first) != 4 {
		t.Error(x.Len(), first)
	}
}
