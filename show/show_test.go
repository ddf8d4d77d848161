package show_test

import (
	"math"
	"reflect"
	"runtime/debug"
	"strings"
	"testing"

	"blazon/api"
	"blazon/show"
)

func times(n int, s string) string { return strings.Repeat(s, n) }

func num(n int64) api.Expr { return api.Expr{Kind: api.ExprNum, Num: n} }

func truth(n int64) api.Expr { return api.Expr{Kind: api.ExprBool, Num: n} }

func name(s string) api.Expr { return api.Expr{Kind: api.ExprName, Name: s} }

func call(s string, l ...api.Expr) api.Expr { return api.Expr{Kind: api.ExprCall, Name: s, L: l} }

func unary(sign string, l ...api.Expr) api.Expr {
	return api.Expr{Kind: api.ExprUnary, Name: sign, L: l}
}

func binary(sign string, l ...api.Expr) api.Expr {
	return api.Expr{Kind: api.ExprBinary, Name: sign, L: l}
}

func open(label string, l ...api.Expr) api.Expr {
	return api.Expr{Kind: api.ExprOpen, Label: label, L: l}
}

func mark(label string) api.Ann { return api.Ann{Some: true, Label: label} }

func lock(label string) api.Ann { return api.Ann{Some: true, Lock: true, Label: label} }

func row(l ...string) api.Row {
	w := api.Row{Some: true}
	for _, s := range l {
		w.L = append(w.L, api.Name{Name: s})
	}
	return w
}

func let(s string, kind int, a api.Ann, e api.Expr) api.Stmt {
	return api.Stmt{Kind: api.StmtLet, Name: s, Type: kind, Ann: a, E: e}
}

func set(s string, e api.Expr) api.Stmt { return api.Stmt{Kind: api.StmtSet, Name: s, E: e} }

func branch(e api.Expr, l, other []api.Stmt) api.Stmt {
	return api.Stmt{Kind: api.StmtIf, E: e, L: l, Else: other}
}

func loop(e api.Expr, l ...api.Stmt) api.Stmt {
	return api.Stmt{Kind: api.StmtWhile, E: e, L: l}
}

func do(s string) api.Stmt { return api.Stmt{Kind: api.StmtDo, Name: s} }

func called(e api.Expr) api.Stmt { return api.Stmt{Kind: api.StmtCall, E: e} }

func body(l ...api.Stmt) []api.Stmt { return l }

func TestType(t *testing.T) {
	for kind, want := range map[int]string{
		0: "int", 1: "bool", 2: "bool", 99: "bool", -1: "bool", math.MinInt: "bool", math.MaxInt: "bool",
	} {
		if s := show.Type(kind); s != want {
			t.Fatal(kind, s)
		}
	}
}

func TestAnn(t *testing.T) {
	for _, c := range []struct {
		a    api.Ann
		want string
	}{
		{api.Ann{}, ""},
		{api.Ann{Lock: true, Label: "low", From: 3, To: 6}, ""},
		{mark("low"), " @low"},
		{lock("low"), " @=low"},
		{api.Ann{Some: true, Label: "low", From: -7, To: math.MaxInt}, " @low"},
		{mark(""), " @"},
		{lock(""), " @="},
		{mark("=\x00 é\xff"), " @=\x00 é\xff"},
	} {
		if s := show.Ann(c.a); s != c.want {
			t.Fatalf("%+v: %q", c, s)
		}
	}
}

func TestRow(t *testing.T) {
	for _, c := range []struct {
		w    api.Row
		want string
	}{
		{api.Row{}, ""},
		{api.Row{L: row("net").L}, ""},
		{row(), " /{}"},
		{api.Row{Some: true, L: []api.Name{}}, " /{}"},
		{row("net"), " /{net}"},
		{row("net", "log"), " /{net, log}"},
		{row("b", "a", "b"), " /{b, a, b}"},
		{row("", "", "}\n\xff"), " /{, , }\n\xff}"},
		{api.Row{Some: true, L: []api.Name{{Name: "a", At: 9}, {Name: "b", At: -9}}}, " /{a, b}"},
	} {
		if s := show.Row(c.w); s != c.want {
			t.Fatalf("%+v: %q", c, s)
		}
	}
}

func TestExpr(t *testing.T) {
	a, b, c := name("a"), name("b"), name("c")
	for _, x := range []struct {
		e    api.Expr
		want string
	}{
		{num(0), "0"}, {num(7), "7"}, {num(math.MaxInt64), "9223372036854775807"},
		{truth(1), "true"}, {truth(0), "false"},
		{a, "a"}, {name("m.v"), "m.v"},
		{call("f"), "f()"}, {call("m.f", a), "m.f(a)"}, {call("f", a, num(1), truth(1)), "f(a, 1, true)"},
		{call("f", binary("+", a, b), call("g", unary("-", a))), "f(a + b, g(-a))"},
		{unary("-", a), "-a"}, {unary("!", truth(0)), "!false"}, {unary("-", num(1)), "-1"},
		{unary("-", unary("!", unary("-", a))), "-!-a"},
		{unary("-", call("f", a)), "-f(a)"}, {unary("!", open("l", a)), "!declassify(a, @l)"},
		{unary("-", binary("*", a, b)), "-(a * b)"}, {unary("!", binary("||", a, b)), "!(a || b)"},
		{open("low", a), "declassify(a, @low)"}, {open("low", binary("||", a, b)), "declassify(a || b, @low)"},
		{binary("+", num(1), binary("*", num(2), name("x"))), "1 + 2 * x"},
		{binary("*", binary("+", num(1), num(2)), name("x")), "(1 + 2) * x"},
		{binary("-", unary("-", a), unary("-", b)), "-a - -b"},
		{binary("*", unary("!", a), unary("-", b)), "!a * -b"},
		{binary("-", binary("-", a, b), c), "a - b - c"}, {binary("-", a, binary("-", b, c)), "a - (b - c)"},
		{binary("+", a, binary("-", b, c)), "a + (b - c)"}, {binary("-", binary("+", a, b), c), "a + b - c"},
		{binary("*", a, binary("*", b, c)), "a * (b * c)"}, {binary("*", binary("*", a, b), c), "a * b * c"},
		{binary("<", a, binary("==", b, c)), "a < (b == c)"}, {binary("==", binary("<", a, b), c), "a < b == c"},
		{binary("&&", a, binary("&&", b, c)), "a && (b && c)"}, {binary("||", binary("||", a, b), c), "a || b || c"},
		{binary("&&", binary("||", a, b), c), "(a || b) && c"}, {binary("||", a, binary("&&", b, c)), "a || b && c"},
		{binary("==", binary("&&", a, b), binary("&&", a, c)), "(a && b) == (a && c)"},
		{binary("&&", binary("==", a, b), binary("<", a, c)), "a == b && a < c"},
		{binary("+", binary("<", a, b), c), "(a < b) + c"}, {binary("<", binary("-", a, b), binary("+", b, c)), "a - b < b + c"},
		{binary("+", call("f", binary("||", a, b)), open("l", binary("||", a, b))), "f(a || b) + declassify(a || b, @l)"},
		{binary("*", binary("*", binary("+", a, b), c), binary("-", unary("-", binary("+", a, b)), c)), "(a + b) * c * (-(a + b) - c)"},
	} {
		if s := show.Expr(x.e); s != x.want {
			t.Fatalf("%+v: %q, not %q", x.e, s, x.want)
		}
	}
}

// TestExprAny tells expressions that no text is read as.
func TestExprAny(t *testing.T) {
	a, b, c, none := name("a"), name("b"), name("c"), api.Expr{Kind: 99, Name: "x", L: []api.Expr{name("a")}}
	for _, x := range []struct {
		e    api.Expr
		want string
	}{
		// A part that isn't there is the zero value.
		{api.Expr{}, "0"},
		{unary("-"), "-0"}, {binary("+"), "0 + 0"}, {binary("+", a), "a + 0"}, {open("l"), "declassify(0, @l)"}, {open(""), "declassify(0, @)"},
		{call(""), "()"}, {name(""), ""}, {unary("", a), "a"}, {binary("", a, b), "a  b"},
		{unary("-", api.Expr{}), "-0"}, {call("f", api.Expr{}), "f(0)"}, {unary("!", binary("<")), "!(0 < 0)"},
		// More parts than a kind has aren't told, nor what its fields don't mean.
		{api.Expr{Num: 5, At: -3, Name: "x", Label: "y", L: []api.Expr{a}}, "5"},
		{api.Expr{Kind: api.ExprBool, Name: "x", Label: "y", L: []api.Expr{a}}, "false"},
		{api.Expr{Kind: api.ExprName, Name: "x", Num: 4, Label: "y", L: []api.Expr{a}}, "x"},
		{unary("-", a, b), "-a"}, {binary("+", a, b, c), "a + b"}, {open("l", a, b), "declassify(a, @l)"},
		// A truth is any number but 0.
		{truth(-1), "true"}, {truth(2), "true"}, {truth(math.MinInt64), "true"}, {truth(1 << 32), "true"},
		{num(-1), "-1"}, {num(math.MinInt64), "-9223372036854775808"}, {binary("-", a, num(-1)), "a - -1"}, {unary("-", num(-1)), "--1"},
		// Of a kind that there is not nothing is told.
		{none, ""}, {api.Expr{Kind: -1, Name: "x"}, ""}, {api.Expr{Kind: 7, Name: "x"}, ""}, {api.Expr{Kind: math.MinInt}, ""}, {api.Expr{Kind: math.MaxInt}, ""},
		{call("f", none, a, none), "f(, a, )"}, {unary("-", none), "-"}, {binary("+", none, none), " + "}, {open("l", none), "declassify(, @l)"},
		// A sign that isn't named in layer 8 has the level 0, also one of another kind's.
		{binary("?", a, b), "a ? b"}, {binary("/", a, binary("/", b, c)), "a / (b / c)"}, {binary("/", binary("/", a, b), c), "a / b / c"},
		{binary("?", binary("!", a, b), binary("", a, c)), "a ! b ? (a  c)"}, {binary("?", binary("||", a, b), binary("||", b, c)), "a || b ? b || c"},
		{binary("||", binary("?", a, b), c), "(a ? b) || c"}, {binary("||", a, binary("&", b, c)), "a || (b & c)"}, {unary("?", binary("?", a, b)), "?(a ? b)"},
		{unary("*", unary("||", a)), "*||a"}, {binary("*", unary("||", a), unary("?", b)), "||a * ?b"}, {call("f", binary("?", a, b)), "f(a ? b)"}, {open("l", binary("?", a, b)), "declassify(a ? b, @l)"},
		{binary("+ ", binary("+", a, b), binary(" +", a, b)), "a + b +  (a  + b)"},
		// Texts are told as they are.
		{name("(\n\xff"), "(\n\xff"}, {call("a b"), "a b()"}, {open(")\x00", a), "declassify(a, @)\x00)"}, {unary("if", a), "ifa"},
	} {
		if s := show.Expr(x.e); s != x.want {
			t.Fatalf("%+v: %q, not %q", x.e, s, x.want)
		}
	}
}

func TestStmts(t *testing.T) {
	a, b := name("a"), name("b")
	for _, c := range []struct {
		l    []api.Stmt
		want string
	}{
		{nil, ""}, {body(), ""},
		{body(let("x", api.TypeInt, mark("low"), num(1))), "let x: int @low = 1;\n"},
		{body(let("x", api.TypeBool, lock("low"), truth(1))), "let x: bool @=low = true;\n"},
		{body(let("x", api.TypeInt, api.Ann{From: 4, To: 4}, binary("+", a, b))), "let x: int = a + b;\n"},
		{body(let("x", 7, api.Ann{Lock: true, Label: "l"}, a)), "let x: bool = a;\n"},
		{body(set("m.v", binary("*", a, b))), "m.v = a * b;\n"},
		{body(do("net")), "do net;\n"},
		{body(called(call("f", a, b))), "f(a, b);\n"},
		{body(do("x"), set("y", num(2)), do("z")), "do x;\ny = 2;\ndo z;\n"},
		{body(branch(a, nil, nil)), "if (a) {\n}\n"},
		{body(branch(a, nil, body())), "if (a) {\n}\n"},
		{body(branch(binary("<", a, b), body(do("x"), do("y")), nil)), "if (a < b) {\n\tdo x;\n\tdo y;\n}\n"},
		{body(branch(a, nil, body(do("x")))), "if (a) {\n} else {\n\tdo x;\n}\n"},
		{body(branch(a, body(do("x")), body(do("y"), do("z"))), do("w")), "if (a) {\n\tdo x;\n} else {\n\tdo y;\n\tdo z;\n}\ndo w;\n"},
		{body(loop(unary("!", a))), "while (!a) {\n}\n"},
		{body(loop(a, do("x"), loop(b, do("y")), do("z")), do("w")), "while (a) {\n\tdo x;\n\twhile (b) {\n\t\tdo y;\n\t}\n\tdo z;\n}\ndo w;\n"},
		{body(branch(a, body(branch(b, nil, body(let("x", 0, api.Ann{}, num(1))))), body(loop(b, do("y"))))),
			"if (a) {\n\tif (b) {\n\t} else {\n\t\tlet x: int = 1;\n\t}\n} else {\n\twhile (b) {\n\t\tdo y;\n\t}\n}\n"},
		// Statements that no text is read as.
		{body(api.Stmt{}), "let : int = 0;\n"},
		{body(api.Stmt{Kind: api.StmtSet}, api.Stmt{Kind: api.StmtIf}, api.Stmt{Kind: api.StmtWhile}, api.Stmt{Kind: api.StmtDo}, api.Stmt{Kind: api.StmtCall}),
			" = 0;\nif (0) {\n}\nwhile (0) {\n}\ndo ;\n0;\n"},
		{body(api.Stmt{Kind: 6, Name: "x"}, do("y"), api.Stmt{Kind: -1, L: body(do("x"))}, api.Stmt{Kind: math.MaxInt, E: a, Else: body(do("x"))}), "do y;\n"},
		{body(branch(a, body(api.Stmt{Kind: 99}), body(api.Stmt{Kind: 99}))), "if (a) {\n} else {\n}\n"},
		{body(called(binary("+", a, b)), called(api.Expr{Kind: 99})), "a + b;\n;\n"},
		{body(api.Stmt{Kind: api.StmtWhile, Name: "n", Ann: mark("l"), E: a, Else: body(do("x"))}), "while (a) {\n}\n"},
		{body(api.Stmt{Kind: api.StmtDo, Name: "n", E: a, L: body(do("x")), Else: body(do("x"))}), "do n;\n"},
		{body(api.Stmt{Kind: api.StmtSet, Name: "n", Type: 1, Ann: mark("l"), E: a, L: body(do("x")), Else: body(do("x"))}), "n = a;\n"},
		{body(api.Stmt{Kind: api.StmtCall, Name: "n", E: call("f"), L: body(do("x"))}), "f();\n"},
		{body(api.Stmt{Kind: api.StmtLet, Name: "n\n\xff", E: a, L: body(do("x")), Else: body(do("x"))}), "let n\n\xff: int = a;\n"},
	} {
		if s := show.Stmts(c.l, 0); s != c.want {
			t.Fatalf("%+v: %q, not %q", c.l, s, c.want)
		}
	}
}

// TestStmtsDeep tells statements at all kinds of depths: those in blocks stand a tab further, also where the outer ones stand as deep as may be.
func TestStmtsDeep(t *testing.T) {
	l := body(branch(name("a"), body(loop(name("b"), do("x"))), body(do("y"))), do("z"))
	for deep, tabs := range map[int]int{
		math.MinInt: 0, -1 << 32: 0, -2: 0, -1: 0, 0: 0, 1: 1, 2: 2, 31: 31, 32: 32, 33: 32, 100: 32, 1 << 32: 32, math.MaxInt - 1: 32, math.MaxInt: 32,
	} {
		want := ""
		for _, line := range []string{"if (a) {", "\twhile (b) {", "\t\tdo x;", "\t}", "} else {", "\tdo y;", "}", "do z;"} {
			want += times(tabs, "\t") + line + "\n"
		}
		if s := show.Stmts(l, deep); s != want {
			t.Fatalf("%d: %q", deep, s)
		}
		if s := show.Stmts(nil, deep); s != "" {
			t.Fatalf("%d: %q", deep, s)
		}
	}
}

func TestModule(t *testing.T) {
	names := row("b", "a", "b").L
	for _, c := range []struct {
		m    api.Module
		want string
	}{
		{api.Module{}, ""},
		{api.Module{Imports: names}, "import b;\nimport a;\nimport b;\n"},
		{api.Module{HasLattice: true}, "lattice {\n}\n"},
		{api.Module{HasLattice: true, Lattice: []api.Pair{{Low: "a", High: "b"}, {Low: "c"}, {Low: "a", High: "a"}}}, "lattice {\n\ta < b;\n\tc;\n\ta < a;\n}\n"},
		{api.Module{HasLattice: true, Lattice: []api.Pair{{}, {High: "b", At: -1}}}, "lattice {\n\t;\n\t < b;\n}\n"},
		{api.Module{Lattice: []api.Pair{{Low: "a", High: "b"}}}, ""},
		{api.Module{HasEffects: true}, "effects {\n}\n"},
		{api.Module{HasEffects: true, Effects: names}, "effects {\n\tb;\n\ta;\n\tb;\n}\n"},
		{api.Module{Effects: names}, ""},
		{api.Module{Vars: []api.Var{{Name: "x"}, {Name: "y", Type: 1, Ann: mark("low")}, {Name: "z", Type: -1, Ann: lock("l")}, {Ann: api.Ann{Label: "l"}}}},
			"var x: int;\nvar y: bool @low;\nvar z: bool @=l;\nvar : int;\n"},
		{api.Module{Fns: []api.Fn{{Name: "f", Ret: num(1)}}}, "fn f(): int {\n\treturn 1;\n}\n"},
		{api.Module{Fns: []api.Fn{{}, {}}}, "fn (): int {\n\treturn 0;\n}\nfn (): int {\n\treturn 0;\n}\n"},
		{api.Module{Fns: []api.Fn{{Name: "f", Params: []api.Var{{Name: "a", Type: 1}}, Type: 1, Row: row(), Body: body(do("x")), Ret: unary("!", name("a"))}}},
			"fn f(a: bool): bool /{} {\n\tdo x;\n\treturn !a;\n}\n"},
		{api.Module{Fns: []api.Fn{{Name: "f", Params: []api.Var{{Name: "a", Ann: lock("h")}, {Name: "b", Type: 1, Ann: mark("l")}, {Name: "c"}}, Ann: lock("h"), Row: row("x", "y"),
			Body: body(branch(name("b"), body(do("x")), body(loop(name("b")))), do("y")), Ret: binary("+", name("a"), name("c"))}}},
			"fn f(a: int @=h, b: bool @l, c: int): int @=h /{x, y} {\n\tif (b) {\n\t\tdo x;\n\t} else {\n\t\twhile (b) {\n\t\t}\n\t}\n\tdo y;\n\treturn a + c;\n}\n"},
		{api.Module{Fns: []api.Fn{{Name: "f", Params: make([]api.Var, 9), Ann: mark("l"), Row: api.Row{L: names}, Ret: api.Expr{Kind: 99}}}},
			"fn f(" + times(8, ": int, ") + ": int): int @l {\n\treturn ;\n}\n"},
		{api.Module{Imports: names[:1], HasLattice: true, HasEffects: true, Effects: names[:1], Vars: make([]api.Var, 1), Fns: make([]api.Fn, 1)},
			"import b;\nlattice {\n}\neffects {\n\tb;\n}\nvar : int;\nfn (): int {\n\treturn 0;\n}\n"},
	} {
		if s := show.Module(c.m); s != c.want {
			t.Fatalf("%+v: %q, not %q", c.m, s, c.want)
		}
	}
}

// TestNoBound tells expressions beyond any height, on a small stack, and lists of any length.
func TestNoBound(t *testing.T) {
	defer debug.SetMaxStack(debug.SetMaxStack(1 << 20))
	const n = 100000
	a := name("a")
	for _, c := range []struct {
		put                 func(e api.Expr) api.Expr
		begin, middle, ends string
	}{
		{func(e api.Expr) api.Expr { return unary("-", e) }, "-", "a", ""},
		{func(e api.Expr) api.Expr { return call("f", e, a) }, "f(", "a", ", a)"},
		{func(e api.Expr) api.Expr { return open("l", e) }, "declassify(", "a", ", @l)"},
		{func(e api.Expr) api.Expr { return binary("+", e, a) }, "", "a", " + a"},
		{func(e api.Expr) api.Expr { return binary("+", a, e) }, "a + (", "a + a", ")"},
		{func(e api.Expr) api.Expr { return unary("!", binary("*", e, a)) }, "!(", "a", " * a)"},
		{func(e api.Expr) api.Expr { return api.Expr{L: []api.Expr{e}} }, "", "0", ""},
		{func(e api.Expr) api.Expr { return api.Expr{Kind: 99, L: []api.Expr{e}} }, "", "", ""},
	} {
		e := a
		if c.middle == "a + a" {
			e = binary("+", a, a)
		}
		for range n {
			e = c.put(e)
		}
		want := times(n, c.begin) + c.middle + times(n, c.ends)
		if s := show.Expr(e); s != want {
			t.Fatal(c.begin, c.ends, len(s), len(want))
		}
		if s := show.Stmts(body(called(e)), 0); s != want+";\n" {
			t.Fatal(c.begin, c.ends, len(s), len(want))
		}
	}
	if s := show.Expr(call("f", make([]api.Expr, n)...)); s != "f("+times(n-1, "0, ")+"0)" {
		t.Fatal(len(s))
	}
	if s := show.Row(api.Row{Some: true, L: make([]api.Name, n)}); s != " /{"+times(n-1, ", ")+"}" {
		t.Fatal(len(s))
	}
	if s := show.Stmts(make([]api.Stmt, n), 1); s != times(n, "\tlet : int = 0;\n") {
		t.Fatal(len(s))
	}
}

// TestBlocksNoBound tells blocks far beyond the depth that may be read.
func TestBlocksNoBound(t *testing.T) {
	const n = 3000
	var l []api.Stmt
	for range n {
		l = body(branch(name("a"), nil, body(loop(name("b"), l...))))
		if len(l[0].Else[0].L) == 0 {
			l[0].Else[0].L = body(do("x"))
		}
	}
	var want strings.Builder
	for i := range n {
		tabs := times(2*i, "\t")
		want.WriteString(tabs + "if (a) {\n" + tabs + "} else {\n" + tabs + "\twhile (b) {\n")
	}
	want.WriteString(times(2*n, "\t") + "do x;\n")
	for i := n - 1; i >= 0; i-- {
		tabs := times(2*i, "\t")
		want.WriteString(tabs + "\t}\n" + tabs + "}\n")
	}
	if s := show.Stmts(l, 0); s != want.String() {
		t.Fatal(len(s), want.Len())
	}
}

// lists are all lists of a value, those in lists too.
func lists(v reflect.Value) []reflect.Value {
	var l []reflect.Value
	switch v.Kind() {
	case reflect.Struct:
		for i := range v.NumField() {
			l = append(l, lists(v.Field(i))...)
		}
	case reflect.Slice:
		l = append(l, v)
		for i := range v.Len() {
			l = append(l, lists(v.Index(i))...)
		}
	}
	return l
}

// TestMemory holds what is handed in against what it is behind the calls; what lies behind a list's length isn't told, and not written.
func TestMemory(t *testing.T) {
	for seed := range uint64(300) {
		m := newMaker(seed, true).module()
		want := newModel().module(m)
		if s := show.Module(m); s != want {
			t.Fatalf("%q, not %q", s, want)
		}
		var behind []reflect.Value
		for _, l := range lists(reflect.ValueOf(&m).Elem()) {
			longer := reflect.MakeSlice(l.Type(), l.Len()+2, l.Len()+2)
			reflect.Copy(longer, l)
			for k := range 2 {
				fill(longer.Index(l.Len() + k))
			}
			l.Set(longer.Slice(0, l.Len()))
			behind = append(behind, longer.Slice(l.Len(), l.Len()+2))
		}
		s := show.Module(m)
		for _, f := range m.Fns {
			show.Row(f.Row)
			show.Stmts(f.Body, 3)
			show.Expr(f.Ret)
		}
		if s != want || newModel().module(m) != want {
			t.Fatalf("%q, not %q", s, want)
		}
		for _, l := range behind {
			for k := range 2 {
				full := reflect.New(l.Type().Elem()).Elem()
				fill(full)
				if !reflect.DeepEqual(l.Index(k).Interface(), full.Interface()) {
					t.Fatal("what lies behind a list changed")
				}
			}
		}
		// What was told hangs on what was handed in no longer.
		for _, l := range lists(reflect.ValueOf(&m).Elem()) {
			for k := range l.Len() {
				fill(l.Index(k))
			}
		}
		if s != want {
			t.Fatalf("%q, not %q", s, want)
		}
	}
}

// fill writes over all numbers, truths and texts of a value.
func fill(v reflect.Value) {
	switch v.Kind() {
	case reflect.Struct:
		for i := range v.NumField() {
			fill(v.Field(i))
		}
	case reflect.String:
		v.SetString("behind")
	case reflect.Bool:
		v.SetBool(true)
	case reflect.Int, reflect.Int64:
		v.SetInt(2)
	}
}
