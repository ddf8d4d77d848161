package span_test

import (
	"bytes"
	"math"
	"math/rand/v2"
	"slices"
	"strings"
	"testing"

	"blazon/api"
	"blazon/span"
)

// A drawer draws texts and edits, the same ones in each run.
type drawer struct{ *rand.Rand }

func newDrawer(seed uint64) drawer { return drawer{rand.New(rand.NewPCG(seed, 0))} }

func (d drawer) text(n int) []byte {
	b := make([]byte, n)
	for i := range b {
		b[i] = "abcdefgh \n\x00\xc3\xa9\xff"[d.IntN(14)]
	}
	return b
}

// edits are such as may be of a text of n bytes.
func (d drawer) edits(n int) []api.Edit {
	var l []api.Edit
	for at := d.IntN(4); at <= n; {
		to := min(n, at+d.IntN(4))
		l = append(l, api.Edit{From: at, To: to, Text: string(d.text(d.IntN(5)))})
		// Often side by side: what an edit took ends where the next one begins.
		at = max(to+d.IntN(3), at+1)
	}
	return l[:min(len(l), api.MaxEdits)]
}

// maybe draws edits of any places near a text of n bytes.
func (d drawer) maybe(n int) []api.Edit {
	l := make([]api.Edit, d.IntN(4))
	for i := range l {
		l[i] = api.Edit{From: d.IntN(n+3) - 1, To: d.IntN(n+3) - 1, Text: string(d.text(d.IntN(3)))}
	}
	return l
}

// right tells whether edits may be, as the chapter says it, part by part.
func right(n int, l []api.Edit) bool {
	for i, x := range l {
		from, to := x.From >= 0 && x.From <= n, x.To >= 0 && x.To <= n
		if !from || !to || x.From > x.To {
			return false
		}
		if i > 0 && (x.From < l[i-1].To || x.From == l[i-1].From) {
			return false
		}
	}
	return true
}

// changed goes through a text byte by byte: what an edit takes is left out, and its text comes where it begins.
func changed(b []byte, l []api.Edit) string {
	var out strings.Builder
	for p := range len(b) + 1 {
		stays := p < len(b)
		for _, x := range l {
			if x.From == p {
				out.WriteString(x.Text)
			}
			if x.From <= p && p < x.To {
				stays = false
			}
		}
		if stays {
			out.WriteByte(b[p])
		}
	}
	return out.String()
}

// undone does edits one by one, from the last one on, so that none moves what those ahead of it take.
func undone(s string, l []api.Edit) string {
	for _, x := range slices.Backward(l) {
		s = s[:x.From] + x.Text + s[x.To:]
	}
	return s
}

// eachList hands on all lists of up to so many edits with places from low to high.
func eachList(most, low, high int, f func(l []api.Edit)) {
	var grow func(l []api.Edit)
	grow = func(l []api.Edit) {
		f(l)
		if len(l) == most {
			return
		}
		for from := low; from <= high; from++ {
			for to := low; to <= high; to++ {
				grow(append(slices.Clone(l), api.Edit{From: from, To: to, Text: "XYZ"[:len(l)]}))
			}
		}
	}
	grow(nil)
}

// inserts are so many edits that take nothing, each at a place of its own.
func inserts(n int) []api.Edit {
	l := make([]api.Edit, n)
	for i := range l {
		l[i] = api.Edit{From: i, To: i, Text: "+"}
	}
	return l
}

func TestCheckKnownEdits(t *testing.T) {
	for _, c := range []struct {
		n    int
		l    []api.Edit
		want api.Errno
	}{
		{0, nil, api.OK},
		{0, []api.Edit{}, api.OK},
		{9, nil, api.OK},
		{0, []api.Edit{{}}, api.OK},
		{0, []api.Edit{{Text: "x"}}, api.OK},
		{0, []api.Edit{{To: 1}}, api.ErrArg},
		{0, []api.Edit{{From: 1, To: 1}}, api.ErrArg},
		{-1, nil, api.OK},
		{-1, []api.Edit{{}}, api.ErrArg},
		{-1, []api.Edit{{From: -1, To: -1}}, api.ErrArg},
		{-2, []api.Edit{{From: -3, To: -2}}, api.ErrArg},
		{3, []api.Edit{{From: 0, To: 3}}, api.OK},
		{3, []api.Edit{{From: 3, To: 3}}, api.OK},
		{3, []api.Edit{{From: 3, To: 4}}, api.ErrArg},
		{3, []api.Edit{{From: 4, To: 4}}, api.ErrArg},
		{3, []api.Edit{{From: 2, To: 1}}, api.ErrArg},
		{3, []api.Edit{{From: 4, To: 3}}, api.ErrArg},
		{3, []api.Edit{{From: -1, To: 1}}, api.ErrArg},
		{3, []api.Edit{{From: 0, To: -1}}, api.ErrArg},
		{3, []api.Edit{{From: -1, To: -1}}, api.ErrArg},
		{9, []api.Edit{{From: 1, To: 3}, {From: 3, To: 5}}, api.OK},
		{9, []api.Edit{{From: 1, To: 3}, {From: 3, To: 3}}, api.OK},
		{9, []api.Edit{{From: 1, To: 3}, {From: 3, To: 3}, {From: 3, To: 4}}, api.ErrArg},
		{9, []api.Edit{{From: 1, To: 3}, {From: 3, To: 3}, {From: 4, To: 4}}, api.OK},
		{9, []api.Edit{{From: 1, To: 3}, {From: 2, To: 5}}, api.ErrArg},
		{9, []api.Edit{{From: 1, To: 3}, {From: 2, To: 2}}, api.ErrArg},
		{9, []api.Edit{{From: 1, To: 3}, {From: 1, To: 3}}, api.ErrArg},
		{9, []api.Edit{{From: 4, To: 5}, {From: 1, To: 3}}, api.ErrArg},
		{9, []api.Edit{{From: 4, To: 5}, {From: 4, To: 4}}, api.ErrArg},
		{9, []api.Edit{{From: 2, To: 2}, {From: 2, To: 2}}, api.ErrArg},
		{9, []api.Edit{{From: 2, To: 2}, {From: 2, To: 3}}, api.ErrArg},
		{9, []api.Edit{{From: 2, To: 2}, {From: 3, To: 3}}, api.OK},
		{9, []api.Edit{{From: 0, To: 0}, {From: 1, To: 9}, {From: 9, To: 9}}, api.OK},
		{9, []api.Edit{{From: 0, To: 0}, {From: 1, To: 9}, {From: 9, To: 10}}, api.ErrArg},
		{9, []api.Edit{{From: 5, To: 6}, {From: 7, To: 8}, {From: 1, To: 2}}, api.ErrArg},
		{9, []api.Edit{{From: math.MinInt, To: math.MaxInt}}, api.ErrArg},
		{9, []api.Edit{{From: math.MaxInt, To: math.MinInt}}, api.ErrArg},
		{9, []api.Edit{{From: 0, To: math.MaxInt}}, api.ErrArg},
		{9, []api.Edit{{From: math.MinInt, To: 0}}, api.ErrArg},
		{math.MaxInt, []api.Edit{{From: 0, To: math.MaxInt}, {From: math.MaxInt, To: math.MaxInt}}, api.OK},
		{math.MaxInt, []api.Edit{{From: math.MaxInt, To: math.MaxInt}}, api.OK},
		{math.MinInt, []api.Edit{{From: math.MinInt, To: math.MinInt}}, api.ErrArg},
		{math.MinInt, nil, api.OK},
	} {
		if got := span.Check(c.n, c.l); got != c.want {
			t.Errorf("%d, %v: %v, want %v", c.n, c.l, got, c.want)
		}
	}
}

func TestCheckTooMany(t *testing.T) {
	for _, c := range []struct {
		n    int
		l    []api.Edit
		want api.Errno
	}{
		{1000, inserts(511), api.OK}, {1000, inserts(512), api.OK}, {1000, inserts(513), api.ErrLong}, {1000, inserts(9000), api.ErrLong},
		{511, inserts(512), api.OK}, {510, inserts(512), api.ErrArg}, {510, inserts(513), api.ErrLong},
		{0, make([]api.Edit, 512), api.ErrArg}, {0, make([]api.Edit, 513), api.ErrLong}, {-1, make([]api.Edit, 513), api.ErrLong},
	} {
		if got := span.Check(c.n, c.l); got != c.want {
			t.Errorf("%d, %d edits: %v, want %v", c.n, len(c.l), got, c.want)
		}
	}
}

func TestCheckAllShortLists(t *testing.T) {
	eachList(2, -2, 5, func(l []api.Edit) {
		for n := -2; n <= 4; n++ {
			if got := span.Check(n, l) == api.OK; got != right(n, l) {
				t.Fatalf("%d, %v: %v", n, l, got)
			}
		}
	})
	eachList(3, -1, 4, func(l []api.Edit) {
		if got := span.Check(3, l) == api.OK; got != right(3, l) {
			t.Fatalf("3, %v: %v", l, got)
		}
	})
}

func TestApplyKnownTexts(t *testing.T) {
	for _, c := range []struct {
		b    string
		l    []api.Edit
		want string
	}{
		{"abc", []api.Edit{{From: 1, To: 2, Text: "xy"}}, "axyc"},
		{"abc", nil, "abc"},
		{"abc", []api.Edit{{From: 0, To: 0}}, "abc"},
		{"abc", []api.Edit{{From: 0, To: 0, Text: "x"}}, "xabc"},
		{"abc", []api.Edit{{From: 3, To: 3, Text: "x"}}, "abcx"},
		{"abc", []api.Edit{{From: 0, To: 3}}, ""},
		{"abc", []api.Edit{{From: 0, To: 1}, {From: 1, To: 2}, {From: 2, To: 3}}, ""},
		{"abc", []api.Edit{{From: 0, To: 1, Text: "1"}, {From: 1, To: 2, Text: "2"}, {From: 2, To: 3, Text: "3"}, {From: 3, To: 3, Text: "4"}}, "1234"},
		{"abc", []api.Edit{{From: 0, To: 2, Text: "x"}, {From: 2, To: 2, Text: "y"}}, "xyc"},
		{"", []api.Edit{{Text: "x"}}, "x"},
		{"", []api.Edit{{}}, ""},
		{"", nil, ""},
		{"a\x00é\xff", []api.Edit{{From: 3, To: 4, Text: "\xfe\x00"}}, "a\x00\xc3\xfe\x00\xff"},
		{"b = a @low;", []api.Edit{{From: 7, To: 10, Text: "high"}}, "b = a @high;"},
	} {
		got, e := span.Apply([]byte(c.b), c.l)
		if string(got) != c.want || e != api.OK {
			t.Errorf("%q, %v: %q, %v, want %q", c.b, c.l, got, e, c.want)
		}
	}
}

// P7.1: all lists that may be of a text of four bytes, up to three edits; beside an error there is nothing.
func TestApplyAllShortLists(t *testing.T) {
	b := []byte("abcdefgh")[:4]
	eachList(3, -1, 5, func(l []api.Edit) {
		want, wantErr := "", span.Check(len(b), l)
		if wantErr == api.OK {
			want = changed(b, l)
		}
		if got, e := span.Apply(b, l); string(got) != want || e != wantErr {
			t.Fatalf("%v: %q, %v, want %q, %v", l, got, e, want, wantErr)
		}
		if m, e := span.Back(b, l); e != wantErr || e == api.OK && undone(want, m) != string(b) || e != api.OK && len(m) > 0 {
			t.Fatalf("%v back: %v, %v", l, m, e)
		}
	})
}

func TestApplyAgainstBytes(t *testing.T) {
	d := newDrawer(1)
	for i := range 3000 {
		b := d.text(i % 50)
		l := d.edits(len(b))
		if got, e := span.Apply(b, l); string(got) != changed(b, l) || e != api.OK {
			t.Fatalf("%q, %v: %q, %v, want %q", b, l, got, e, changed(b, l))
		}
	}
}

func TestErrors(t *testing.T) {
	b := []byte("abc")
	for _, c := range []struct {
		l    []api.Edit
		want api.Errno
	}{
		{[]api.Edit{{From: 1, To: 2, Text: "x"}, {From: 1, To: 2}}, api.ErrArg},
		{[]api.Edit{{From: 1, To: 2, Text: "x"}, {From: 3, To: 4}}, api.ErrArg},
		{[]api.Edit{{From: math.MinInt, To: math.MaxInt, Text: "x"}}, api.ErrArg},
		{inserts(512), api.ErrArg},
		{inserts(513), api.ErrLong},
	} {
		if got, e := span.Apply(b, c.l); len(got) > 0 || e != c.want {
			t.Errorf("Apply, %d edits: %q, %v, want %v", len(c.l), got, e, c.want)
		}
		if got, e := span.Back(b, c.l); len(got) > 0 || e != c.want {
			t.Errorf("Back, %d edits: %v, %v, want %v", len(c.l), got, e, c.want)
		}
	}
}

// What lies behind the length of a text is no part of it.
func TestTextsEndAtTheirLength(t *testing.T) {
	b := []byte("abcdef")[:3]
	for _, x := range []api.Edit{{From: 3, To: 4}, {From: 4, To: 4}, {From: 0, To: 6}} {
		if _, e := span.Apply(b, []api.Edit{x}); e != api.ErrArg {
			t.Error(x, e)
		}
		if _, e := span.Back(b, []api.Edit{x}); e != api.ErrArg {
			t.Error(x, e)
		}
	}
	l := []api.Edit{{From: 0, To: 1}, {From: 9, To: 9}}[:1]
	if got, e := span.Apply(b, l); string(got) != "bc" || e != api.OK {
		t.Errorf("%q, %v", got, e)
	}
}

func TestBackKnownEdits(t *testing.T) {
	for _, c := range []struct {
		b       string
		l, want []api.Edit
	}{
		{"abc", []api.Edit{{From: 1, To: 2, Text: "xy"}}, []api.Edit{{From: 1, To: 3, Text: "b"}}},
		{"abc", nil, nil},
		{"", []api.Edit{{Text: "xyz"}}, []api.Edit{{From: 0, To: 3}}},
		{"abc", []api.Edit{{From: 0, To: 3}}, []api.Edit{{From: 0, To: 0, Text: "abc"}}},
		{"abc", []api.Edit{{From: 2, To: 2}}, []api.Edit{{From: 2, To: 2}}},
		{"abcdef", []api.Edit{{From: 0, To: 0, Text: "12"}, {From: 1, To: 4, Text: "3"}, {From: 5, To: 6, Text: "456"}, {From: 6, To: 6, Text: "7"}},
			[]api.Edit{{From: 0, To: 2}, {From: 3, To: 4, Text: "bcd"}, {From: 5, To: 8, Text: "f"}, {From: 8, To: 9}}},
		{"abcd", []api.Edit{{From: 0, To: 3}, {From: 3, To: 4, Text: "é"}}, []api.Edit{{From: 0, To: 0, Text: "abc"}, {From: 0, To: 2, Text: "d"}}},
		{"ab", []api.Edit{{From: 0, To: 1}, {From: 1, To: 2}}, []api.Edit{{From: 0, To: 0, Text: "a"}, {From: 0, To: 0, Text: "b"}}},
	} {
		if got, e := span.Back([]byte(c.b), c.l); !slices.Equal(got, c.want) || e != api.OK {
			t.Errorf("%q, %v: %v, %v, want %v", c.b, c.l, got, e, c.want)
		}
	}
}

// P7.2: one for each, where its text has come to stand, of what stood there.
func TestBackAgainstTexts(t *testing.T) {
	d := newDrawer(3)
	for i := range 3000 {
		b := d.text(i % 50)
		l := d.edits(len(b))
		m, e := span.Back(b, l)
		if e != api.OK || len(m) != len(l) {
			t.Fatalf("%q, %v: %v, %v", b, l, m, e)
		}
		for k, x := range l {
			ahead := len(changed(b[:x.From], l[:k]))
			if want := (api.Edit{From: ahead, To: ahead + len(x.Text), Text: string(b[x.From:x.To])}); m[k] != want {
				t.Fatalf("%q, %v: %v instead of %v", b, l, m[k], want)
			}
		}
	}
}

// sideBySide tells whether an edit that leaves nothing ends where another one begins: only such ones, changed back, come to one place.
func sideBySide(l []api.Edit) bool {
	for i := range l {
		if i > 0 && l[i-1].Text == "" && l[i-1].To == l[i].From {
			return true
		}
	}
	return false
}

// P7.3: what is changed, and changed back, is as it was, by Apply too; and changed again it is as it had become.
func TestThereAndBack(t *testing.T) {
	d := newDrawer(5)
	tried := 0
	for i := range 6000 {
		b := d.text(i % 50)
		l := d.edits(len(b))
		c, _ := span.Apply(b, l)
		m, _ := span.Back(b, l)
		if got := undone(string(c), m); got != string(b) {
			t.Fatalf("%q, %v: back it is %q", b, l, got)
		}
		if got := span.Check(len(c), m) != api.OK; got != sideBySide(l) {
			t.Fatalf("%q, %v: back by %v", b, l, m)
		}
		if sideBySide(l) {
			continue
		}
		tried++
		if got, e := span.Apply(c, m); !bytes.Equal(got, b) || e != api.OK {
			t.Fatalf("%q, %v: back it is %q, %v", b, l, got, e)
		}
		if got, e := span.Back(c, m); !slices.Equal(got, l) || e != api.OK {
			t.Fatalf("%q, %v: back and back again by %v, %v", b, l, got, e)
		}
	}
	if tried < 2000 {
		t.Fatal(tried)
	}
}

func TestPlaceKnownPlaces(t *testing.T) {
	l := []api.Edit{{From: 0, To: 5, Text: "bye"}, {From: 5, To: 5, Text: ","}, {From: 6, To: 11}}
	for _, c := range []struct {
		l        []api.Edit
		at, want int
	}{
		{l, 5, 4}, {l, 0, 0}, {l, 4, 4}, {l, 6, 5}, {l, 10, 9}, {l, 11, 5}, {l, 12, 6}, {l, -1, -1},
		{nil, 0, 0}, {nil, 7, 7}, {nil, -7, -7}, {nil, math.MaxInt, math.MaxInt}, {nil, math.MinInt, math.MinInt},
		{[]api.Edit{{From: 2, To: 2, Text: "xy"}}, 1, 1}, {[]api.Edit{{From: 2, To: 2, Text: "xy"}}, 2, 4}, {[]api.Edit{{From: 2, To: 2, Text: "xy"}}, 3, 5},
		{[]api.Edit{{From: 0, To: 0, Text: "x"}}, 0, 1}, {[]api.Edit{{From: 0, To: 0, Text: "x"}}, -1, -1},
		{[]api.Edit{{From: 1, To: 3, Text: "xyz"}}, 2, 2}, {[]api.Edit{{From: 1, To: 3, Text: "xyz"}}, 3, 4},
		{[]api.Edit{{From: 1, To: 3, Text: "x"}, {From: 3, To: 3, Text: "y"}}, 3, 3}, {[]api.Edit{{From: 1, To: 3, Text: "x"}, {From: 4, To: 6}}, 5, 4},
		{[]api.Edit{{From: 5, To: 6, Text: "xyz"}, {From: 1, To: 1, Text: "ab"}}, 4, 6}, {[]api.Edit{{From: 5, To: 6, Text: "xyz"}, {From: 1, To: 1, Text: "ab"}}, 6, 10},
		{inserts(600), 1000, 1600},
	} {
		if got := span.Place(c.l, c.at); got != c.want {
			t.Errorf("%v at %d: %d, want %d", c.l, c.at, got, c.want)
		}
	}
}

// P7.2 and P7.3: each byte that no edit takes stands at its Place, and these bytes keep their order.
func TestBytesStay(t *testing.T) {
	d := newDrawer(7)
	for i := range 3000 {
		b := d.text(i % 50)
		l := d.edits(len(b))
		c, _ := span.Apply(b, l)
		last := -1
		for at := range b {
			if slices.ContainsFunc(l, func(x api.Edit) bool { return x.From <= at && at < x.To }) {
				continue
			}
			p := span.Place(l, at)
			if want := len(changed(b[:at], ahead(l, at))); p != want || p <= last || c[p] != b[at] {
				t.Fatalf("%q, %v at %d: %d, want %d", b, l, at, p, want)
			}
			last = p
		}
	}
}

// ahead are the edits that come ahead of the byte at a place, where none takes it.
func ahead(l []api.Edit, at int) []api.Edit {
	return slices.DeleteFunc(slices.Clone(l), func(x api.Edit) bool { return x.From > at })
}

func TestSortKnownEdits(t *testing.T) {
	for _, c := range []struct{ l, want []api.Edit }{
		{nil, nil},
		{[]api.Edit{{From: 3}}, []api.Edit{{From: 3}}},
		{[]api.Edit{{From: 5}, {From: 1, To: 2}, {From: 1, To: 1}}, []api.Edit{{From: 1, To: 2}, {From: 1, To: 1}, {From: 5}}},
		{[]api.Edit{{From: 2, Text: "b"}, {From: 2, Text: "a"}, {From: -2}, {From: 2, Text: "c"}}, []api.Edit{{From: -2}, {From: 2, Text: "b"}, {From: 2, Text: "a"}, {From: 2, Text: "c"}}},
		{[]api.Edit{{From: math.MaxInt}, {From: math.MinInt}, {From: 0, To: 9}, {From: -1}, {From: 0, To: -9}}, []api.Edit{{From: math.MinInt}, {From: -1}, {From: 0, To: 9}, {From: 0, To: -9}, {From: math.MaxInt}}},
	} {
		if got := span.Sort(c.l); !slices.Equal(got, c.want) {
			t.Errorf("%v: %v, want %v", c.l, got, c.want)
		}
	}
}

// Sorted one by one: each edit comes behind all that don't begin behind it.
func TestSortAgainstInsertion(t *testing.T) {
	d := newDrawer(9)
	for i := range 600 {
		l := make([]api.Edit, i)
		for k := range l {
			l[k] = api.Edit{From: d.IntN(1+i/3) - 3, To: k, Text: string(d.text(d.IntN(2)))}
		}
		var want []api.Edit
		for _, x := range l {
			at := slices.IndexFunc(want, func(y api.Edit) bool { return y.From > x.From })
			if at < 0 {
				at = len(want)
			}
			want = slices.Insert(want, at, x)
		}
		if got := span.Sort(l); !slices.Equal(got, want) {
			t.Fatalf("%v: %v, want %v", l, got, want)
		}
	}
}

// R4: no call changes what it is handed, nor what lies behind it, and no answer shares its memory.
func TestArgumentsStay(t *testing.T) {
	d := newDrawer(11)
	for i := range 500 {
		whole := d.text(i%40 + 8)
		b := whole[:len(whole)-8]
		wholeEdits := append(d.edits(len(b)), api.Edit{From: 1, To: 2, Text: "behind"}, api.Edit{})
		l := wholeEdits[:len(wholeEdits)-2]
		if i%5 == 0 {
			l = d.maybe(len(b))
			wholeEdits = l
		}
		oldText, oldEdits := string(whole), slices.Clone(wholeEdits)
		c, _ := span.Apply(b, l)
		m, _ := span.Back(b, l)
		s := span.Sort(l)
		span.Check(len(b), l)
		span.Place(l, i)
		wantBack := slices.Clone(m)
		// Whoever asked may write over what was answered, and behind it.
		clear(c[:cap(c)])
		clear(s[:cap(s)])
		if string(whole) != oldText || !slices.Equal(wholeEdits, oldEdits) {
			t.Fatalf("%q, %v was changed", oldText, oldEdits)
		}
		clear(whole)
		if !slices.Equal(m, wantBack) {
			t.Fatalf("%v became %v", wantBack, m)
		}
		clear(m[:cap(m)])
		if !slices.Equal(wholeEdits, oldEdits) {
			t.Fatalf("%v was changed", oldEdits)
		}
	}
}

// P1: wrong edits of any places end with an error or a right answer, and the same each time.
func TestAnyEdits(t *testing.T) {
	d := newDrawer(13)
	far := []int{math.MinInt, math.MinInt + 1, -1, 0, 1, 2, 3, math.MaxInt - 1, math.MaxInt}
	b := []byte("abc")
	for range 20000 {
		l := d.maybe(len(b))
		for k := range l {
			if d.IntN(4) == 0 {
				l[k].From = far[d.IntN(len(far))]
			}
			if d.IntN(4) == 0 {
				l[k].To = far[d.IntN(len(far))]
			}
		}
		at := far[d.IntN(len(far))]
		c, e := span.Apply(b, l)
		if ok := right(len(b), l); ok != (e == api.OK) || ok && string(c) != changed(b, l) {
			t.Fatalf("%v: %q, %v", l, c, e)
		}
		if again, e2 := span.Apply(b, l); !bytes.Equal(again, c) || e2 != e {
			t.Fatalf("%v: %q, then %q", l, c, again)
		}
		if span.Place(l, at) != span.Place(l, at) || !slices.Equal(span.Sort(l), span.Sort(l)) {
			t.Fatalf("%v: two answers", l)
		}
	}
}

func TestManyEdits(t *testing.T) {
	b := bytes.Repeat([]byte("ab"), 600)
	l := inserts(512)
	for i := range l {
		l[i] = api.Edit{From: 2 * i, To: 2*i + 1, Text: strings.Repeat("x", i%7)}
	}
	c, e := span.Apply(b, l)
	if string(c) != changed(b, l) || e != api.OK {
		t.Fatal(len(c), e)
	}
	m, e := span.Back(b, l)
	if d, e2 := span.Apply(c, m); !bytes.Equal(d, b) || e != api.OK || e2 != api.OK {
		t.Fatal(len(d), e, e2)
	}
}

func TestLongTexts(t *testing.T) {
	b := bytes.Repeat([]byte("abcdefgh"), 1<<17)
	l := []api.Edit{{From: 1, To: len(b) - 1, Text: strings.Repeat("x", 1<<21)}}
	c, e := span.Apply(b, l)
	if len(c) != 1<<21+2 || e != api.OK {
		t.Fatal(len(c), e)
	}
	m, _ := span.Back(b, l)
	if d, e := span.Apply(c, m); !bytes.Equal(d, b) || e != api.OK {
		t.Fatal(len(d), e)
	}
}
