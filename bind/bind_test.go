package bind_test

import (
	"math"
	"reflect"
	"runtime/debug"
	"slices"
	"strconv"
	"strings"
	"testing"

	"blazon/api"
	"blazon/bind"
	"blazon/file"
	"blazon/scope"
)

// read is what files say.
func read(t *testing.T, texts ...string) []api.Module {
	t.Helper()
	var l []api.Module
	for _, s := range texts {
		m, at, e := file.Parse([]byte(s))
		if e != api.OK {
			t.Fatalf("%s: %d at %d", s, e, at)
		}
		l = append(l, m)
	}
	return l
}

// scoped is the scope of modules, whose names are those of a text.
func scoped(t *testing.T, names string, mods []api.Module) *scope.Scope {
	t.Helper()
	s, in, at, e := scope.New(strings.Fields(names), mods)
	if e != api.OK {
		t.Fatalf("%s: %d in %d at %d", names, e, in, at)
	}
	return s
}

// bound is the program of files.
func bound(t *testing.T, names string, texts ...string) api.Prog {
	t.Helper()
	mods := read(t, texts...)
	p, in, at, e := bind.New(scoped(t, names, mods), mods)
	if in != 0 || at != 0 || e != api.OK {
		t.Fatalf("%s: %d in %d at %d", texts, e, in, at)
	}
	return p
}

// fails asks for an error at a place, and for nothing beside it.
func fails(t *testing.T, s *scope.Scope, mods []api.Module, want fault) {
	t.Helper()
	p, in, at, e := bind.New(s, mods)
	if got := (fault{in, at, e}); got != want || !same(p, api.Prog{}) {
		t.Errorf("%+v: %+v, %+v; not %+v", mods, p, got, want)
	}
}

// cut takes the | out of texts: where it stands something is told.
func cut(texts []string) (l []string, in, at int) {
	for i, s := range texts {
		if k := strings.Index(s, "|"); k >= 0 {
			in, at = i, k
		}
		l = append(l, strings.ReplaceAll(s, "|", ""))
	}
	return l, in, at
}

func TestExample(t *testing.T) {
	p := bound(t, "a", "var g: int; fn f(a: int): int { let b: int = a; return b; } lattice {}")
	want := []api.Site{
		{Kind: api.SiteVar, Fn: -1, Mark: 0, Name: "g"},
		{Kind: api.SiteParam, Mark: 1, Name: "a"},
		{Kind: api.SiteResult, Mark: 2, Name: "f"},
		{Kind: api.SitePc, Mark: -1},
		{Kind: api.SiteLocal, Mark: 3, Name: "b"},
	}
	if !slices.Equal(p.Sites, want) {
		t.Errorf("%+v", p.Sites)
	}
}

// TestSites has each kind of site, in functions ahead of variables too.
func TestSites(t *testing.T) {
	p := bound(t, "main lib",
		`import lib; fn f(a: bool @low, b: int): bool @=high /{net, net} { if (a) { let c: int @low = 1; } else { let c: bool = a; } while (a) { let d: int = 2; } let e: int = 3; return a; }
		var x: bool; fn g(): int { return 1; } var y: int @low;`,
		"lattice { low < high; } fn h(): bool /{} { let z: bool = true; return z; } var v: int;")
	want := []api.Site{
		{Kind: api.SiteVar, Fn: -1, Mark: 7, Type: api.TypeBool, Name: "x"},
		{Kind: api.SiteVar, Fn: -1, Mark: 9, Type: api.TypeInt, Name: "y"},
		{Kind: api.SiteVar, File: 1, Fn: -1, Mark: 2, Type: api.TypeInt, Name: "v"},
		{Kind: api.SiteParam, Mark: 0, Type: api.TypeBool, Name: "a"},
		{Kind: api.SiteParam, Mark: 1, Type: api.TypeInt, Name: "b"},
		{Kind: api.SiteResult, Mark: 2, Type: api.TypeBool, Name: "f"},
		{Kind: api.SitePc, Mark: -1, Type: api.TypeInt},
		{Kind: api.SiteLocal, Mark: 3, Type: api.TypeInt, Name: "c"},
		{Kind: api.SiteLocal, Mark: 4, Type: api.TypeBool, Name: "c"},
		{Kind: api.SiteLocal, Mark: 5, Type: api.TypeInt, Name: "d"},
		{Kind: api.SiteLocal, Mark: 6, Type: api.TypeInt, Name: "e"},
		{Kind: api.SiteResult, Fn: 1, Mark: 8, Type: api.TypeInt, Name: "g"},
		{Kind: api.SitePc, Fn: 1, Mark: -1, Type: api.TypeInt},
		{Kind: api.SiteResult, File: 1, Fn: 2, Mark: 0, Type: api.TypeBool, Name: "h"},
		{Kind: api.SitePc, File: 1, Fn: 2, Mark: -1, Type: api.TypeInt},
		{Kind: api.SiteLocal, File: 1, Fn: 2, Mark: 1, Type: api.TypeBool, Name: "z"},
	}
	for i := range max(len(p.Sites), len(want)) {
		if len(p.Sites) != len(want) || p.Sites[i] != want[i] {
			t.Fatalf("%d: %+v", i, p.Sites)
		}
	}
	f, g, h := p.Fns[0], p.Fns[1], p.Fns[2]
	if f.Name != "f" || f.File != 0 || f.At != 15 || !slices.Equal(f.Params, []int{3, 4}) || f.Result != 5 || f.Pc != 6 {
		t.Errorf("%+v", f)
	}
	if !f.Row.Some || !slices.Equal(f.Row.L, []api.Name{{Name: "net", At: 54}, {Name: "net", At: 59}}) {
		t.Errorf("%+v", f.Row)
	}
	if g.Name != "g" || len(g.Params) != 0 || g.Result != 11 || g.Pc != 12 || g.Row.Some || len(g.Row.L) != 0 {
		t.Errorf("%+v", g)
	}
	if h.Name != "h" || h.File != 1 || h.At != 27 || h.Result != 13 || h.Pc != 14 || !h.Row.Some || len(h.Row.L) != 0 {
		t.Errorf("%+v", h)
	}
}

func code(kind, at int, l ...api.Code) api.Code { return api.Code{Kind: kind, At: at, L: l} }

func number(at int, n int64) api.Code { return api.Code{Kind: api.CodeNum, At: at, Num: n} }

func truth(at int, n int64) api.Code { return api.Code{Kind: api.CodeBool, At: at, Num: n} }

func held(at, site int) api.Code { return api.Code{Kind: api.CodeSite, At: at, Site: site} }

func signed(at int, sign string, l ...api.Code) api.Code {
	return api.Code{Kind: []int{0, api.CodeUnary, api.CodeBinary}[len(l)], At: at, Name: sign, L: l}
}

// TestCodes has each kind of expression. The sites are: x 0, y 1 (of the other module), a 2, f 3, its pc 4.
func TestCodes(t *testing.T) {
	const ahead = "import m; lattice {} var x: int; fn f(a: int): int { return "
	n := len(ahead)
	for in, want := range map[string]api.Code{
		"0":                   number(n, 0),
		"9223372036854775807": number(n, math.MaxInt64),
		"true":                truth(n, 1),
		"false":               truth(n, 0),
		"a":                   held(n, 2),
		"x":                   held(n, 0),
		"(m.y)":               held(n+1, 1),
		"f()":                 {Kind: api.CodeCall, At: n, Fn: 0},
		"f(x, 2,a)":           {Kind: api.CodeCall, At: n, Fn: 0, L: []api.Code{held(n+2, 0), number(n+5, 2), held(n+7, 2)}},
		"m.g(m.h())":          {Kind: api.CodeCall, At: n, Fn: 1, L: []api.Code{{Kind: api.CodeCall, At: n + 4, Fn: 2}}},
		"!a":                  signed(n, "!", held(n+1, 2)),
		"- -x":                signed(n, "-", signed(n+2, "-", held(n+3, 0))),
		"a<1":                 signed(n, "<", held(n, 2), number(n+2, 1)),
		"a + x * m.y":         signed(n, "+", held(n, 2), signed(n+4, "*", held(n+4, 0), held(n+8, 1))),
		"1 - 2 - 3":           signed(n, "-", signed(n, "-", number(n, 1), number(n+4, 2)), number(n+8, 3)),
		"a == a && x || y1()": {},
		"declassify(a,@hi)":   {Kind: api.CodeOpen, At: n, Name: "hi", L: []api.Code{held(n+11, 2)}},
		"declassify(1, @if_)": {Kind: api.CodeOpen, At: n, Name: "if_", L: []api.Code{number(n+11, 1)}},
	} {
		mods := read(t, ahead+in+"; }", "var y: int; fn g(): int { return 1; } fn h(): int { return 1; }")
		s := scoped(t, "a m", mods)
		if strings.Contains(in, "y1") {
			fails(t, s, mods, fault{0, n + 15, api.ErrName})
			continue
		}
		p, _, _, e := bind.New(s, mods)
		if e != api.OK || !reflect.DeepEqual(p.Fns[0].Ret, want) {
			t.Errorf("%s: %d, %+v, not %+v", in, e, p.Fns[0].Ret, want)
		}
	}
}

// TestActs has each kind of statement. The sites are: x 0, a 1, f 2, its pc 3, and lets from 4 on.
func TestActs(t *testing.T) {
	const ahead = "lattice {} var x: int; fn f(a: int): int { "
	n := len(ahead)
	for in, want := range map[string][]api.Act{
		"":                               nil,
		"let b: int = a;":                {{Kind: api.ActSet, At: n, Site: 4, E: held(n+13, 1)}},
		"let b: int @low = 1; b = b;":    {{Kind: api.ActSet, At: n, Site: 4, E: number(n+18, 1)}, {Kind: api.ActSet, At: n + 21, Site: 4, E: held(n+25, 4)}},
		"a = x; x = a;":                  {{Kind: api.ActSet, At: n, Site: 1, E: held(n+4, 0)}, {Kind: api.ActSet, At: n + 7, Site: 0, E: held(n+11, 1)}},
		"do net; do net;":                {{Kind: api.ActDo, At: n, Name: "net"}, {Kind: api.ActDo, At: n + 8, Name: "net"}},
		"f(x);":                          {{Kind: api.ActCall, At: n, E: code(api.CodeCall, n, held(n+2, 0))}},
		"if (a) {}":                      {{Kind: api.ActIf, At: n, E: held(n+4, 1)}},
		"if (a) {} else {}":              {{Kind: api.ActIf, At: n, E: held(n+4, 1)}},
		"if (a) {do b;} else {do c;}":    {{Kind: api.ActIf, At: n, E: held(n+4, 1), L: []api.Act{{Kind: api.ActDo, At: n + 8, Name: "b"}}, Else: []api.Act{{Kind: api.ActDo, At: n + 21, Name: "c"}}}},
		"while (x) {}":                   {{Kind: api.ActWhile, At: n, E: held(n+7, 0)}},
		"while (x) {x = 1; do n;} do o;": {{Kind: api.ActWhile, At: n, E: held(n+7, 0), L: []api.Act{{Kind: api.ActSet, At: n + 11, E: number(n+15, 1)}, {Kind: api.ActDo, At: n + 18, Name: "n"}}}, {Kind: api.ActDo, At: n + 25, Name: "o"}},
		"while (1) {if (2) {f();}}":      {{Kind: api.ActWhile, At: n, E: number(n+7, 1), L: []api.Act{{Kind: api.ActIf, At: n + 11, E: number(n+15, 2), L: []api.Act{{Kind: api.ActCall, At: n + 19, E: code(api.CodeCall, n+19)}}}}}},
	} {
		p := bound(t, "a", ahead+in+" return 1; }")
		if !reflect.DeepEqual(p.Fns[0].Body, want) {
			t.Errorf("%s: %+v, not %+v", in, p.Fns[0].Body, want)
		}
	}
}

// sites are those that a function's lets, sets and asks name, in the order of the text, as a text.
func sites(f api.Func) string {
	out := ""
	put := func(c api.Code) {
		if c.Kind == api.CodeSite {
			out += " " + strconv.Itoa(c.Site)
		}
	}
	var row func(l []api.Act)
	row = func(l []api.Act) {
		for _, a := range l {
			put(a.E)
			if a.Kind == api.ActSet {
				out += " =" + strconv.Itoa(a.Site)
			}
			row(a.L)
			row(a.Else)
		}
	}
	row(f.Body)
	put(f.Ret)
	return strings.TrimSpace(out)
}

// TestVisible has names that mean one thing here, and another one there. The sites are: x 0, y 1, x of the other module 2, a 3, f 4, its pc 5, and lets from 6 on.
func TestVisible(t *testing.T) {
	for in, want := range map[string]string{
		"return x;":                                            "0",
		"return a;":                                            "3",
		"return m.x;":                                          "2",
		"let x: int = x; return x;":                            "0 =6 6",
		"let x: int = m.x; m.x = x; return m.x;":               "2 =6 6 =2 2",
		"x = x; let x: int = x; x = x; return x;":              "0 =0 0 =6 6 =6 6",
		"if (x) { let x: int = x; x = x; } return x;":          "0 0 =6 6 =6 0",
		"if (x) { let x: int = a; } else { x = x; } return x;": "0 3 =6 0 =0 0",
		"if (x) { let x: int = a; } else { let x: int = x; x = x; } return x;":                                                     "0 3 =6 0 =7 7 =7 0",
		"if (x) { x = x; } else { let x: int = x; } return x;":                                                                     "0 0 =0 0 =6 0",
		"while (x) { let x: int = x; if (x) { x = x; } x = x; } return x;":                                                         "0 0 =6 6 6 =6 6 =6 0",
		"while (x) { if (x) { let x: int = x; } x = x; } return x;":                                                                "0 0 0 =6 0 =0 0",
		"let x: int = 1; while (x) { if (x) { x = y; } } return x;":                                                                "=6 6 6 1 =6 6",
		"while (x) { let x: int = x; } let x: int = x; return x;":                                                                  "0 0 =6 0 =7 7",
		"if (x) { let x: int = x; } if (x) { let x: int = x; x = x; } return x;":                                                   "0 0 =6 0 0 =7 7 =7 0",
		"let f: int = a; f(); f = f; return f;":                                                                                    "3 =6 6 =6 6",
		"let m: int = m.x; let y: int = y; m = y; return m;":                                                                       "2 =6 1 =7 7 =6 6",
		"while (x) { let p: int = x; while (p) { let q: int = p; while (q) { let r: int = q; r = p; } q = q; } p = p; } return x;": "0 0 =6 6 6 =7 7 7 =8 6 =8 7 =7 6 =6 0",
	} {
		p := bound(t, "n m", "import m; lattice {} var x: int; var y: int; fn f(a: int): int { "+in+" }", "var x: int;")
		if got := sites(p.Fns[0]); got != want {
			t.Errorf("%s: %s, not %s", in, got, want)
		}
	}
}

// TestOtherFunctions has names of one function that another one has, or asks for.
func TestOtherFunctions(t *testing.T) {
	p := bound(t, "n", "lattice {} var b: int; fn f(a: int): int { let b: int = a; return b; } fn g(b: int): int { let a: int = b; return a; } fn h(): int { return b; }")
	for i, want := range []string{"1 =4 4", "5 =8 8", "0"} {
		if got := sites(p.Fns[i]); got != want {
			t.Errorf("%d: %s, not %s", i, got, want)
		}
	}
	for _, name := range []string{"a", "b", "f1"} {
		texts, in, at := cut([]string{"lattice {} fn f(a: int): int { let b: int = a; return b; } fn g(f1: int): int { return f1; } fn h(): int { return |" + name + "; }"})
		mods := read(t, texts...)
		fails(t, scoped(t, "n", mods), mods, fault{in, at, api.ErrName})
	}
}

// TestCalls has functions of several modules that call one another, ahead of where they stand too.
func TestCalls(t *testing.T) {
	p := bound(t, "a b c",
		"import b; import c; fn f(): int { return b.g(); } fn g(): int { return g(); } fn h(): int { return c.f(); }",
		"import c; fn e(): int { return c.f(); } fn g(): int { return c.g(); }",
		"lattice {} fn f(): int { return g(); } fn g(): int { return f(); }")
	for i, want := range []int{4, 1, 5, 5, 6, 6, 5} {
		if got := p.Fns[i].Ret; got.Kind != api.CodeCall || got.Fn != want {
			t.Errorf("%d: %+v, not %d", i, got, want)
		}
	}
	for i, want := range []int{0, 0, 0, 1, 1, 2, 2} {
		if got := p.Fns[i].File; got != want {
			t.Errorf("%d: in %d, not %d", i, got, want)
		}
	}
}

// TestErrors has each error, at the |.
func TestErrors(t *testing.T) {
	for _, c := range []struct {
		texts []string
		e     api.Errno
	}{
		{[]string{"fn f(a: int, |a: int): int { return 1; }"}, api.ErrThere},
		{[]string{"fn f(a: int, b: bool, c: int, |b: int, a: int): int { return 1; }"}, api.ErrThere},
		{[]string{"fn f(a: int): int { |let a: int = 1; return 1; }"}, api.ErrThere},
		{[]string{"fn f(a: int): int { if (true) { while (true) { |let a: int = 1; } } return 1; }"}, api.ErrThere},
		{[]string{"fn f(): int { let a: int = 1; |let a: bool = true; return 1; }"}, api.ErrThere},
		{[]string{"fn f(): int { let a: int = 1; if (true) { } else { |let a: int = 1; } return 1; }"}, api.ErrThere},
		{[]string{"fn f(): int { let a: int = 1; if (true) { let b: int = 1; while (true) { let c: int = 1; |let b: int = 1; } } return 1; }"}, api.ErrThere},
		{[]string{"fn f(): int { return |x; }"}, api.ErrName},
		{[]string{"fn f(): int { return |f; }"}, api.ErrName},
		{[]string{"var x: int; fn f(): int { return |x(); }"}, api.ErrName},
		{[]string{"fn f(g: int): int { return |g(); }"}, api.ErrName},
		{[]string{"fn f(): int { |g(); return 1; }"}, api.ErrName},
		{[]string{"fn f(): int { |x = 1; return 1; }"}, api.ErrName},
		{[]string{"fn f(): int { |f = 1; return 1; }"}, api.ErrName},
		{[]string{"fn f(): int { |x = x; return 1; }"}, api.ErrName},
		{[]string{"fn f(): int { |(x) = x; return 1; }"}, api.ErrName},
		{[]string{"var y: int; fn f(): int { y = 1 + (|x); return 1; }"}, api.ErrName},
		{[]string{"fn f(): int { let x: int = |x; return 1; }"}, api.ErrName},
		{[]string{"fn f(): int { if (|x) { let x: int = 1; } return 1; }"}, api.ErrName},
		{[]string{"fn f(): int { while (|x) { let x: int = 1; } return 1; }"}, api.ErrName},
		{[]string{"fn f(): int { if (true) { let x: int = 1; } else { |x = 1; } return 1; }"}, api.ErrName},
		{[]string{"fn f(): int { if (true) { let x: int = 1; } |x = 1; return 1; }"}, api.ErrName},
		{[]string{"fn f(): int { while (true) { let x: int = 1; } return |x; }"}, api.ErrName},
		{[]string{"fn f(): int { while (true) { |x = 1; let x: int = 1; } return 1; }"}, api.ErrName},
		{[]string{"fn f(): int { return f(1, |x); }"}, api.ErrName},
		{[]string{"fn f(): int { return !|x; }"}, api.ErrName},
		{[]string{"fn f(): int { return declassify(|x, @x); }"}, api.ErrName},
		{[]string{"fn f(): int { return |n.x; } var x: int;"}, api.ErrName},
		{[]string{"import m; fn f(): int { return |y; } var x: int;", "var y: int;"}, api.ErrName},
		{[]string{"import m; fn f(): int { return |m.x; } var x: int;", "var y: int;"}, api.ErrName},
		{[]string{"import m; fn f(): int { return |m.y(); }", "var y: int;"}, api.ErrName},
		{[]string{"import m; fn f(): int { |m.x = 1; return 1; }", "fn x(): int { return 1; }"}, api.ErrName},
		{[]string{"fn f(): int { return |m.x; }", "var x: int;"}, api.ErrName},
		{[]string{"import m; var x: int;", "var y: int; fn f(): int { return |x; }"}, api.ErrName},
		{[]string{"import m; var x: int;", "var y: int; fn f(): int { return |n.x; }"}, api.ErrName},
		{[]string{"", "fn f(): int { return 1; } fn g(a: int): int { return 1; } fn h(a: int, |a: int): int { return 1; }"}, api.ErrThere},
	} {
		texts, in, at := cut(c.texts)
		texts[0] += " lattice {}"
		mods := read(t, texts...)
		fails(t, scoped(t, strings.Join([]string{"n", "m"}[:len(texts)], " "), mods), mods, fault{in, at, c.e})
	}
}

// TestFirst has two errors: the first one, at the |, is told.
func TestFirst(t *testing.T) {
	for _, c := range []struct {
		texts []string
		e     api.Errno
	}{
		{[]string{"fn f(): int { return |x; }", "fn f(a: int, a: int): int { return 1; }"}, api.ErrName},
		{[]string{"fn f(): int { return |x; } fn g(a: int, a: int): int { return x; }"}, api.ErrName},
		{[]string{"fn f(a: int, |a: int): int { let b: int = x; return x; } fn g(): int { return x; }"}, api.ErrThere},
		{[]string{"fn f(a: int, |a: int, a: int): int { return 1; }"}, api.ErrThere},
		{[]string{"fn f(a: int): int { let a: int = |x; return 1; }"}, api.ErrName},
		{[]string{"fn f(a: int): int { let b: int = |x; let a: int = 1; return 1; }"}, api.ErrName},
		{[]string{"fn f(a: int): int { |let a: int = 1; let b: int = x; return 1; }"}, api.ErrThere},
		{[]string{"fn f(a: int): int { |let a: int = a; x = 1; return 1; }"}, api.ErrThere},
		{[]string{"fn f(): int { |x = y; return z; }"}, api.ErrName},
		{[]string{"fn f(): int { return |g(x); }"}, api.ErrName},
		{[]string{"fn f(): int { return f(|x, y, g()); }"}, api.ErrName},
		{[]string{"fn f(): int { return f(1, f(|g(x)), x); }"}, api.ErrName},
		{[]string{"fn f(): int { return |x + y * z; }"}, api.ErrName},
		{[]string{"fn f(): int { return 1 * |x + y; }"}, api.ErrName},
		{[]string{"fn f(): int { if (|x) { y = 1; } else { z = 1; } return 1; }"}, api.ErrName},
		{[]string{"fn f(): int { if (true) { |y = 1; } else { z = 1; } x = 1; return 1; }"}, api.ErrName},
		{[]string{"fn f(): int { if (true) { } else { |z = 1; } x = 1; return 1; }"}, api.ErrName},
		{[]string{"fn f(): int { while (|x) { y = 1; } return z; }"}, api.ErrName},
		{[]string{"fn f(): int { while (true) { while (true) { |y = 1; } z = 1; } return z; }"}, api.ErrName},
	} {
		texts, in, at := cut(c.texts)
		texts[0] += " lattice {}"
		mods := read(t, texts...)
		fails(t, scoped(t, strings.Join([]string{"n", "m"}[:len(texts)], " "), mods), mods, fault{in, at, c.e})
	}
}

// variables are so many of them, each with an own name and place.
func variables(n int) []api.Var {
	var l []api.Var
	for i := range n {
		l = append(l, api.Var{Name: "v" + strconv.Itoa(i), At: 1000 + i, Ann: api.Ann{From: i}})
	}
	return l
}

// lets are so many of them.
func lets(n int) []api.Stmt {
	var l []api.Stmt
	for i := range n {
		l = append(l, api.Stmt{Kind: api.StmtLet, Name: "l" + strconv.Itoa(i), At: 2000 + i, E: api.Expr{Kind: api.ExprBool}})
	}
	return l
}

// TestFull has 512 sites, and one more, of each kind.
func TestFull(t *testing.T) {
	none := fault{}
	fn := func(params, l int) []api.Fn {
		return []api.Fn{{Name: "f", At: 7, Params: variables(params), Body: lets(l)}}
	}
	for _, c := range []struct {
		first, second api.Module
		want          fault
	}{
		{api.Module{Vars: variables(512)}, api.Module{}, none},
		{api.Module{Vars: variables(513)}, api.Module{}, fault{0, 1512, api.ErrFull}},
		{api.Module{Vars: variables(600)}, api.Module{Vars: variables(600)}, fault{0, 1512, api.ErrFull}},
		{api.Module{Vars: variables(500)}, api.Module{Vars: variables(12)}, none},
		{api.Module{Vars: variables(500)}, api.Module{Vars: variables(13)}, fault{1, 1012, api.ErrFull}},
		{api.Module{}, api.Module{Vars: variables(514)}, fault{1, 1512, api.ErrFull}},
		{api.Module{Vars: variables(512), Fns: fn(0, 0)}, api.Module{}, fault{0, 7, api.ErrFull}},
		{api.Module{Vars: variables(511), Fns: fn(0, 0)}, api.Module{}, fault{0, 7, api.ErrFull}},
		{api.Module{Vars: variables(510), Fns: fn(0, 0)}, api.Module{}, none},
		{api.Module{Fns: fn(0, 0)}, api.Module{Vars: variables(511)}, fault{0, 7, api.ErrFull}},
		{api.Module{Fns: fn(0, 0)}, api.Module{Vars: variables(513)}, fault{1, 1512, api.ErrFull}},
		{api.Module{Vars: variables(512), Fns: fn(1, 0)}, api.Module{}, fault{0, 1000, api.ErrFull}},
		{api.Module{Vars: variables(510), Fns: fn(4, 0)}, api.Module{}, fault{0, 1002, api.ErrFull}},
		{api.Module{Vars: variables(508), Fns: fn(4, 0)}, api.Module{}, fault{0, 7, api.ErrFull}},
		{api.Module{Vars: variables(507), Fns: fn(4, 0)}, api.Module{}, fault{0, 7, api.ErrFull}},
		{api.Module{Vars: variables(506), Fns: fn(4, 0)}, api.Module{}, none},
		{api.Module{Vars: variables(506), Fns: fn(4, 3)}, api.Module{}, fault{0, 2000, api.ErrFull}},
		{api.Module{Fns: fn(0, 510)}, api.Module{}, none},
		{api.Module{Fns: fn(0, 511)}, api.Module{}, fault{0, 2510, api.ErrFull}},
		{api.Module{Fns: fn(600, 511)}, api.Module{}, fault{0, 1512, api.ErrFull}},
		{api.Module{Fns: fn(2, 254)}, api.Module{Fns: fn(3, 249)}, none},
		{api.Module{Fns: fn(2, 254)}, api.Module{Fns: fn(3, 250)}, fault{1, 2249, api.ErrFull}},
		{api.Module{Fns: fn(0, 0)}, api.Module{Fns: fn(509, 0)}, fault{1, 7, api.ErrFull}},
		{api.Module{Fns: fn(0, 0)}, api.Module{Fns: fn(508, 0)}, none},
	} {
		mods := []api.Module{c.first, c.second}
		mods[0].HasLattice = true
		if s := scoped(t, "a b", mods); c.want != none {
			fails(t, s, mods, c.want)
		} else if p, in, at, e := bind.New(s, mods); e != api.OK || len(p.Sites) != 512 {
			t.Errorf("%d sites, %d in %d at %d", len(p.Sites), e, in, at)
		}
		check(t, []string{"a", "b"}, mods)
	}
}

// TestFullAndMore has errors beside too many sites.
func TestFullAndMore(t *testing.T) {
	x := api.Expr{Kind: api.ExprName, Name: "x", At: 30}
	for i, c := range []struct {
		vars int
		fn   api.Fn
		want fault
	}{
		{512, api.Fn{At: 7, Ret: x}, fault{0, 7, api.ErrFull}},
		{510, api.Fn{At: 7, Ret: x}, fault{0, 30, api.ErrName}},
		{511, api.Fn{Params: []api.Var{{At: 1}, {At: 2}}}, fault{0, 2, api.ErrThere}},
		{511, api.Fn{Params: []api.Var{{At: 1}, {At: 2, Name: "a"}}, Ret: x}, fault{0, 2, api.ErrFull}},
		{512, api.Fn{Params: []api.Var{{At: 1}, {At: 2}}}, fault{0, 1, api.ErrFull}},
		{510, api.Fn{Body: []api.Stmt{{Kind: api.StmtLet, At: 5}}}, fault{0, 5, api.ErrFull}},
		{510, api.Fn{Body: []api.Stmt{{Kind: api.StmtLet, At: 5, E: x}}}, fault{0, 30, api.ErrName}},
		{509, api.Fn{Params: []api.Var{{}}, Body: []api.Stmt{{Kind: api.StmtLet, At: 5}}}, fault{0, 5, api.ErrThere}},
		{509, api.Fn{Params: []api.Var{{}}, Body: []api.Stmt{{Kind: api.StmtLet, At: 5, E: x}}}, fault{0, 30, api.ErrName}},
		{510, api.Fn{Body: []api.Stmt{{Kind: api.StmtLet, At: 5}, {Kind: api.StmtSet, Name: "x", At: 6}}}, fault{0, 5, api.ErrFull}},
		{510, api.Fn{Body: []api.Stmt{{Kind: api.StmtSet, Name: "x", At: 6}, {Kind: api.StmtLet, At: 5}}}, fault{0, 6, api.ErrName}},
		{513, api.Fn{Params: []api.Var{{At: 1}, {At: 2}}}, fault{0, 1512, api.ErrFull}},
	} {
		mods := []api.Module{{HasLattice: true, Vars: variables(c.vars), Fns: []api.Fn{c.fn}}}
		t.Log(i)
		fails(t, scoped(t, "a", mods), mods, c.want)
		check(t, []string{"a"}, mods)
	}
}

// TestArg has scopes that aren't there, and those of fewer or more modules.
func TestArg(t *testing.T) {
	arg := fault{0, 0, api.ErrArg}
	good, wrong := read(t, "lattice {} var x: int;", "fn f(): int { return 1; }"), read(t, "lattice {}", "fn f(a: int, a: int): int { return x; }")
	both := scoped(t, "a b", good)
	for _, mods := range [][]api.Module{good, wrong} {
		for n := range 3 {
			fails(t, nil, mods[:n], arg)
			if n < 2 {
				fails(t, both, mods[:n], arg)
			}
			if n > 0 {
				fails(t, new(scope.Scope), mods[:n], arg)
			}
		}
		fails(t, both, append(slices.Clip(mods), api.Module{}), arg)
		fails(t, scoped(t, "a", good[:1]), mods, arg)
	}
	fails(t, nil, nil, arg)
	// A scope without modules has as many as there are.
	for _, mods := range [][]api.Module{nil, {}} {
		if p, in, at, e := bind.New(new(scope.Scope), mods); !same(p, api.Prog{}) || in != 0 || at != 0 || e != api.OK {
			t.Error(p, in, at, e)
		}
	}
}

// TestOtherScope has the scope of other modules, as many as there are: what it tells of and is not there is none.
func TestOtherScope(t *testing.T) {
	s := scoped(t, "a b", read(t,
		"import b; lattice {} var x: int; var y: int; var z: int; fn f(): int { return 1; } fn g(): int { return 1; } fn h(): int { return 1; }",
		"var x: int; var y: int; var z: int; fn f(): int { return 1; } fn g(): int { return 1; } fn h(): int { return 1; }"))
	for in, want := range map[string]fault{
		"return x;":                  {},
		"return b.x;":                {},
		"return f();":                {},
		"return b.f();":              {},
		"return |y;":                 {0, 0, api.ErrName},
		"return |b.y;":               {0, 0, api.ErrName},
		"return |g();":               {0, 0, api.ErrName},
		"return |b.g();":             {0, 0, api.ErrName},
		"return |z;":                 {0, 0, api.ErrName},
		"return |b.z;":               {0, 0, api.ErrName},
		"return |h();":               {0, 0, api.ErrName},
		"return |b.h();":             {0, 0, api.ErrName},
		"|b.y = 1; return 1;":        {0, 0, api.ErrName},
		"let y: int = 1; return y;":  {},
		"let y: int = |y; return y;": {0, 0, api.ErrName},
		"return |p;":                 {0, 0, api.ErrName},
		"return |c.p;":               {0, 0, api.ErrName},
	} {
		texts, _, at := cut([]string{"import c; var p: int; fn q(): int { " + in + " }"})
		mods := read(t, texts[0], "var p: int; fn q(): int { return 1; }")
		if want.at = at; want.e != api.OK {
			fails(t, s, mods, want)
		} else if p, _, _, e := bind.New(s, mods); e != api.OK || len(p.Fns) != 2 {
			t.Errorf("%s: %+v, %d", in, p, e)
		}
	}
	for _, mods := range [][]api.Module{{{}, {}}, {{Vars: variables(1)}, {}}} {
		if p, in, at, e := bind.New(s, mods); len(p.Sites) != len(mods[0].Vars) || in != 0 || at != 0 || e != api.OK {
			t.Error(p, in, at, e)
		}
	}
}

// TestMarks has annotations that are alike, or stand at one place, in a module that wasn't read.
func TestMarks(t *testing.T) {
	ann := func(from int, label string) api.Ann { return api.Ann{Some: label != "", Label: label, From: from} }
	let := func(a api.Ann, name string) api.Stmt { return api.Stmt{Kind: api.StmtLet, Name: name, Ann: a} }
	mods := []api.Module{{HasLattice: true}, {
		Vars: []api.Var{{Name: "a", Ann: ann(5, "x")}, {Name: "b", Ann: ann(3, "y")}, {Name: "c", Ann: ann(3, "x")}, {Name: "d", Ann: ann(3, "y")}},
		Fns: []api.Fn{
			{Name: "f", Params: []api.Var{{Name: "p", Ann: ann(3, "x")}, {Name: "q", Ann: ann(-7, "")}}, Ann: ann(3, "y"), Body: []api.Stmt{
				{Kind: api.StmtIf, L: []api.Stmt{let(ann(4, ""), "r"), let(ann(3, ""), "s")}, Else: []api.Stmt{let(ann(5, "x"), "r")}},
				let(ann(5, "x"), "t"), let(ann(3, "y"), "u"),
			}},
			{Name: "g", Ann: ann(5, "x")},
		},
	}}
	p, _, _, e := bind.New(scoped(t, "m n", mods), mods)
	if e != api.OK {
		t.Fatal(e)
	}
	got := ""
	for _, s := range p.Sites {
		got += " " + s.Name + strconv.Itoa(s.Mark)
	}
	if want := " a9 b1 c2 d3 p4 q0 f5 -1 r8 s6 r10 t11 u7 g12 -1"; got != want {
		t.Errorf("%s, not %s", got, want)
	}
	all := file.Marks(mods[1])
	for i, want := range []api.Ann{ann(5, "x"), ann(3, "y"), ann(3, "x"), ann(3, "y"), ann(3, "x"), ann(-7, ""), ann(3, "y")} {
		if all[p.Sites[i].Mark] != want {
			t.Errorf("%d: %+v", i, p.Sites[i])
		}
	}
	check(t, []string{"m", "n"}, mods)
}

// TestAnyParts has modules that weren't read: parts of kinds that there are not, too few and too many of them, and parts that a kind doesn't have.
func TestAnyParts(t *testing.T) {
	x := api.Expr{Kind: api.ExprName, Name: "x", At: 9}
	none := api.Expr{Kind: api.ExprName, Name: "none", At: -9}
	for i, c := range []struct {
		e    api.Expr
		want api.Code
		err  api.Errno
	}{
		{e: api.Expr{Kind: api.ExprNum, Num: -5, Name: "x", Label: "y", L: []api.Expr{none}}, want: api.Code{Num: -5}},
		{e: api.Expr{Kind: api.ExprBool, Num: 7, Name: "x", Label: "y", L: []api.Expr{none}}, want: api.Code{Kind: api.CodeBool, Num: 7}},
		{e: api.Expr{Kind: api.ExprName, Num: 3, Name: "x", Label: "y", L: []api.Expr{none}}, want: api.Code{Kind: api.CodeSite, Site: 1}},
		{e: api.Expr{Kind: api.ExprCall, Num: 3, Name: "g", Label: "y"}, want: api.Code{Kind: api.CodeCall, Fn: 1}},
		{e: api.Expr{Kind: api.ExprUnary, Num: 3, Name: "?", Label: "y"}, want: api.Code{Kind: api.CodeUnary, Name: "?"}},
		{e: api.Expr{Kind: api.ExprUnary, L: []api.Expr{x, x}}, want: code(api.CodeUnary, 0, held(9, 1), held(9, 1))},
		{e: api.Expr{Kind: api.ExprUnary, L: []api.Expr{x, none}}, err: api.ErrName},
		{e: api.Expr{Kind: api.ExprBinary, Num: 3, Name: "none", L: []api.Expr{x}}, want: api.Code{Kind: api.CodeBinary, Name: "none", L: []api.Code{held(9, 1)}}},
		{e: api.Expr{Kind: api.ExprBinary, L: []api.Expr{x, x, none}}, err: api.ErrName},
		{e: api.Expr{Kind: api.ExprOpen, Num: 3, Name: "none", Label: "\xff\n"}, want: api.Code{Kind: api.CodeOpen, Name: "\xff\n"}},
		{e: api.Expr{Kind: 7, Num: 3, Name: "none", Label: "y", L: []api.Expr{x}}, want: api.Code{Kind: 7, L: []api.Code{held(9, 1)}}},
		{e: api.Expr{Kind: -1, L: []api.Expr{none}}, err: api.ErrName},
		{e: api.Expr{Kind: math.MinInt}, want: api.Code{Kind: math.MinInt}},
	} {
		c.e.At, c.want.At = 77, 77
		mods := []api.Module{{HasLattice: true, Vars: []api.Var{{Name: "y"}, {Name: "x"}}, Fns: []api.Fn{{Name: "f", Ret: c.e}, {Name: "g"}}}}
		s := scoped(t, "a", mods)
		if c.err != api.OK {
			fails(t, s, mods, fault{0, -9, c.err})
		} else if p, _, _, e := bind.New(s, mods); e != api.OK || !reflect.DeepEqual(p.Fns[0].Ret, c.want) {
			t.Errorf("%d: %d, %+v", i, e, p)
		}
		check(t, []string{"a"}, mods)
	}
	bad := []api.Stmt{{Kind: api.StmtSet, Name: "none"}, {Kind: api.StmtLet, Name: "x"}}
	for i, c := range []struct {
		s    api.Stmt
		want api.Act
	}{
		{api.Stmt{Kind: api.StmtLet, Name: "l", L: bad, Else: bad}, api.Act{Kind: api.ActSet, Site: 4}},
		{api.Stmt{Kind: api.StmtSet, Name: "x", L: bad, Else: bad}, api.Act{Kind: api.ActSet, Site: 1}},
		{api.Stmt{Kind: api.StmtIf, Name: "none"}, api.Act{Kind: api.ActIf}},
		{api.Stmt{Kind: api.StmtWhile, Name: "none", Else: bad}, api.Act{Kind: api.ActWhile}},
		{api.Stmt{Kind: api.StmtDo, Name: "\xff", E: none, L: bad, Else: bad}, api.Act{Kind: api.ActDo, Name: "\xff"}},
		{api.Stmt{Kind: api.StmtCall, Name: "none", E: x, L: bad, Else: bad}, api.Act{Kind: api.ActCall, E: held(9, 1)}},
		{api.Stmt{Kind: 6, Name: "none", E: none, L: bad, Else: bad}, api.Act{Kind: 6}},
		{api.Stmt{Kind: -1, Name: "none", E: none, L: bad, Else: bad}, api.Act{Kind: -1}},
		{api.Stmt{Kind: math.MinInt, E: none}, api.Act{Kind: math.MinInt}},
	} {
		c.s.At, c.want.At = -77, -77
		mods := []api.Module{{HasLattice: true, Vars: []api.Var{{Name: "y"}, {Name: "x"}}, Fns: []api.Fn{{Name: "f", Body: []api.Stmt{c.s}}}}}
		if p, _, _, e := bind.New(scoped(t, "a", mods), mods); e != api.OK || !reflect.DeepEqual(p.Fns[0].Body, []api.Act{c.want}) {
			t.Errorf("%d: %d, %+v", i, e, p)
		}
		check(t, []string{"a"}, mods)
	}
}

// TestAnyNames has names of any bytes: one with a . in it may be a let's, or a parameter's.
func TestAnyNames(t *testing.T) {
	for _, name := range []string{"", ".", "m.x", "if", "\x00\xff", strings.Repeat("n", 5000)} {
		e := api.Expr{Kind: api.ExprName, Name: name, At: 3}
		use := api.Stmt{Kind: api.StmtSet, Name: name, At: 2, E: e}
		fn := api.Fn{Name: "f", Params: []api.Var{{Name: name, At: 1}}, Body: []api.Stmt{use}, Ret: e}
		for i, f := range []api.Fn{fn, {Name: "f", Body: []api.Stmt{{Kind: api.StmtLet, Name: name, At: 1}, use}, Ret: e}} {
			mods := []api.Module{{HasLattice: true, Imports: []api.Name{{Name: "m"}}, Fns: []api.Fn{f}}, {Vars: variables(2)}}
			p, _, _, e := bind.New(scoped(t, "a m", mods), mods)
			if want := []string{"2 =2 2", "=4 4 =4 4"}[i]; e != api.OK || strings.TrimPrefix(sites(p.Fns[0]), "0 ") != want {
				t.Errorf("%q: %d, %+v", name, e, p)
			}
			check(t, []string{"a", "m"}, mods)
		}
		fn.Params = append(fn.Params, fn.Params[0])
		mods := []api.Module{{HasLattice: true, Fns: []api.Fn{fn}}}
		fails(t, scoped(t, "a", mods), mods, fault{0, 1, api.ErrThere})
	}
}

// TestDeep has parts, and blocks, very deep.
func TestDeep(t *testing.T) {
	defer debug.SetMaxStack(debug.SetMaxStack(1 << 20))
	const n = 1 << 18
	e := api.Expr{Kind: api.ExprName, Name: "x", At: n}
	for i := range n {
		e = api.Expr{Kind: []int{api.ExprUnary, api.ExprCall, api.ExprOpen, -1}[i%4], Name: "f", At: n - 1 - i, L: []api.Expr{e}}
	}
	row := []api.Stmt{{Kind: api.StmtLet, Name: "last", At: n}, {Kind: api.StmtSet, Name: "first", At: n}}
	for i := range n {
		s := api.Stmt{Kind: api.StmtWhile, At: n - 1 - i, L: row}
		if i%3 == 0 {
			s = api.Stmt{Kind: api.StmtIf, At: n - 1 - i, Else: row}
		}
		row = []api.Stmt{s, {Kind: api.StmtSet, Name: "first"}}
	}
	mods := []api.Module{{HasLattice: true, Vars: []api.Var{{Name: "x"}}, Fns: []api.Fn{{Name: "f", Ret: e, Body: append([]api.Stmt{{Kind: api.StmtLet, Name: "first"}}, row...)}}}}
	s := scoped(t, "a", mods)
	p, _, _, err := bind.New(s, mods)
	if err != api.OK || len(p.Sites) != 5 || p.Sites[4].Name != "last" || p.Sites[4].Mark != 3 {
		t.Fatal(err, p.Sites)
	}
	deep := 0
	for c := p.Fns[0].Ret; ; c = c.L[0] {
		if c.At != deep {
			t.Fatal(deep, c.At)
		}
		if len(c.L) == 0 {
			break
		}
		deep++
	}
	if deep != n {
		t.Error(deep)
	}
	deep = 0
	for l := p.Fns[0].Body[1:]; l[0].Kind != api.ActSet; l = append(l[0].L, l[0].Else...) {
		if l[0].At != deep || l[1].Site != 3 {
			t.Fatal(deep, l[0].At, l[1].Site)
		}
		deep++
	}
	if deep != n {
		t.Error(deep)
	}
	mods[0].Vars[0].Name = "y"
	fails(t, scoped(t, "a", mods), mods, fault{0, n, api.ErrName})
}

// TestWide has very many parts, statements, and lets: of these no more are taken in than there may be sites.
func TestWide(t *testing.T) {
	const n = 1 << 17
	f := api.Fn{Name: "f", Body: make([]api.Stmt, n), Ret: api.Expr{Kind: api.ExprCall, Name: "f", L: make([]api.Expr, n)}}
	for i := range n {
		f.Body[i] = api.Stmt{Kind: api.StmtDo, At: i}
		f.Ret.L[i] = api.Expr{At: i}
	}
	mods := []api.Module{{HasLattice: true, Fns: []api.Fn{f}}}
	s := scoped(t, "a", mods)
	p, _, _, e := bind.New(s, mods)
	if e != api.OK || len(p.Fns[0].Body) != n || len(p.Fns[0].Ret.L) != n {
		t.Fatal(e, len(p.Fns))
	}
	for i := range n {
		if p.Fns[0].Body[i].At != i || p.Fns[0].Ret.L[i].At != i {
			t.Fatal(i)
		}
	}
	mods[0].Fns[0].Body = lets(n)
	fails(t, s, mods, fault{0, 2510, api.ErrFull})
	for i := range f.Body {
		f.Body[i] = api.Stmt{Kind: api.StmtWhile, L: []api.Stmt{{Kind: api.StmtLet, Name: "l", At: i}}}
	}
	mods[0].Fns[0].Body = f.Body
	fails(t, s, mods, fault{0, 510, api.ErrFull})
}
