package stmt_test

import (
	"math"
	"math/rand/v2"
	"reflect"
	"runtime/debug"
	"slices"
	"strings"
	"testing"

	"blazon/api"
	"blazon/expr"
	"blazon/stmt"
)

// A writer writes texts, the same ones in each run.
type writer struct{ *rand.Rand }

func newWriter(seed uint64) writer { return writer{rand.New(rand.NewPCG(seed, 0))} }

func (w writer) one(l []string) string { return l[w.IntN(len(l))] }

// gap is what may stand between two tokens.
func (w writer) gap() string {
	return w.one([]string{"", "", " ", "\n", "\t \r", " #let $ {\n", "#\n"})
}

func times(n int, s string) string { return strings.Repeat(s, n) }

// read is the expression that a text is, as if it began at a place.
func read(at int, in string) api.Expr {
	e, _, err := expr.Parse([]byte(in))
	if err != api.OK {
		panic(in)
	}
	shift(&e, at)
	return e
}

func shift(e *api.Expr, n int) {
	e.At += n
	for i := range e.L {
		shift(&e.L[i], n)
	}
}

func none(at int) api.Ann { return api.Ann{From: at, To: at} }

func mark(at int, label string) api.Ann {
	return api.Ann{Some: true, Label: label, From: at, To: at + len(label)}
}

func lock(at int, label string) api.Ann {
	a := mark(at, label)
	a.Lock = true
	return a
}

func let(at int, name string, kind int, a api.Ann, e api.Expr) api.Stmt {
	return api.Stmt{Kind: api.StmtLet, At: at, Name: name, Type: kind, Ann: a, E: e}
}

func set(at int, name string, e api.Expr) api.Stmt {
	return api.Stmt{Kind: api.StmtSet, At: at, Name: name, E: e}
}

func branch(at int, e api.Expr, l, other []api.Stmt) api.Stmt {
	return api.Stmt{Kind: api.StmtIf, At: at, E: e, L: l, Else: other}
}

func loop(at int, e api.Expr, l ...api.Stmt) api.Stmt {
	return api.Stmt{Kind: api.StmtWhile, At: at, E: e, L: l}
}

func do(at int, name string) api.Stmt { return api.Stmt{Kind: api.StmtDo, At: at, Name: name} }

func call(at int, e api.Expr) api.Stmt { return api.Stmt{Kind: api.StmtCall, At: at, E: e} }

// sameExpr and same tell whether two expressions, two statements, are the same, down to their last parts.
func sameExpr(a, b api.Expr) bool {
	if !slices.EqualFunc(a.L, b.L, sameExpr) {
		return false
	}
	a.L, b.L = nil, nil
	return reflect.DeepEqual(a, b)
}

func same(a, b api.Stmt) bool {
	if !sameExpr(a.E, b.E) || !sameRow(a.L, b.L) || !sameRow(a.Else, b.Else) {
		return false
	}
	a.E, a.L, a.Else, b.E, b.L, b.Else = api.Expr{}, nil, nil, api.Expr{}, nil, nil
	return reflect.DeepEqual(a, b)
}

func sameRow(a, b []api.Stmt) bool { return slices.EqualFunc(a, b, same) }

// parses asks for statements, and for nothing at all where an error is wanted.
func parses(t *testing.T, in string, want []api.Stmt, pos int, wantErr api.Errno) {
	t.Helper()
	l, at, err := stmt.Parse([]byte(in))
	if !sameRow(l, want) || at != pos || err != wantErr {
		t.Fatalf("Parse(%q): %+v, %d, %d; not %+v, %d, %d", in, l, at, err, want, pos, wantErr)
	}
}

func row(l ...api.Stmt) []api.Stmt { return l }

func TestParse(t *testing.T) {
	long := times(api.MaxIdent, "x")
	a := read(4, "a")
	for in, want := range map[string][]api.Stmt{
		"":                                      nil,
		" # nothing; {\n":                       nil,
		"let x: int @low = 1;":                  row(let(0, "x", api.TypeInt, mark(12, "low"), read(18, "1"))),
		"let x: bool @=low = a<b;":              row(let(0, "x", api.TypeBool, lock(14, "low"), read(20, "a<b"))),
		"let x: bool = true;":                   row(let(0, "x", api.TypeBool, none(11), read(14, "true"))),
		"let x:int=1;":                          row(let(0, "x", api.TypeInt, none(9), read(10, "1"))),
		"let x:int # @no\n =1;":                 row(let(0, "x", api.TypeInt, none(9), read(18, "1"))),
		" let x : int @ # why\n l=1;":           row(let(1, "x", api.TypeInt, mark(22, "l"), read(24, "1"))),
		"let " + long + ":int@=" + long + "=1;": row(let(0, long, api.TypeInt, lock(34, long), read(59, "1"))),
		"x = 1;":                                row(set(0, "x", read(4, "1"))),
		"m . v = x;":                            row(set(0, "m.v", read(8, "x"))),
		"x = (1 + y)*f(2);":                     row(set(0, "x", read(4, "(1 + y)*f(2)"))),
		"x = y == 1;":                           row(set(0, "x", read(4, "y == 1"))),
		"f();":                                  row(call(0, read(0, "f()"))),
		" m.f (1, g(x)) ;":                      row(call(1, read(1, "m.f (1, g(x))"))),
		"(x) = 1;":                              row(set(0, "x", read(6, "1"))),
		"((f(x)));":                             row(call(0, read(2, "f(x)"))),
		"do net;":                               row(do(0, "net")),
		"do x;x=1;do y;":                        row(do(0, "x"), set(5, "x", read(7, "1")), do(9, "y")),
		"if (a) {}":                             row(branch(0, a, nil, nil)),
		"if (a) {} else {}":                     row(branch(0, a, nil, nil)),
		"if (a) {do x;}":                        row(branch(0, a, row(do(8, "x")), nil)),
		"if (a) {} else {do x;}":                row(branch(0, a, nil, row(do(16, "x")))),
		"if (a) {do x;} else {do y;f();}":       row(branch(0, a, row(do(8, "x")), row(do(21, "y"), call(26, read(26, "f()"))))),
		"if (a) {if (b) {} else {do x;}}":       row(branch(0, a, row(branch(8, read(12, "b"), nil, row(do(24, "x")))), nil)),
		"if (a) {if (b) {}} else {do x;}":       row(branch(0, a, row(branch(8, read(12, "b"), nil, nil)), row(do(25, "x")))),
		"if (a) {} else {if (b) {}} do x;":      row(branch(0, a, nil, row(branch(16, read(20, "b"), nil, nil))), do(27, "x")),
		"if ((a)) {}":                           row(branch(0, read(5, "a"), nil, nil)),
		"while (true) {}":                       row(loop(0, read(7, "true"))),
		"while(a<1){a=1;do b;}do c;":            row(loop(0, read(6, "a<1"), set(11, "a", read(13, "1")), do(15, "b")), do(21, "c")),
		"while (a) {while (b) {do x;} do y;}": row(
			loop(0, read(7, "a"), loop(11, read(18, "b"), do(22, "x")), do(29, "y"))),
		"let let_: int = 1; dot(); iff = 2;": row(
			let(0, "let_", api.TypeInt, none(13), read(16, "1")), call(19, read(19, "dot()")), set(26, "iff", read(32, "2"))),
	} {
		parses(t, in, want, len(in), api.OK)
	}
}

// A fault is where an error is, and which one.
type fault struct {
	pos int
	err api.Errno
}

func TestParseErrors(t *testing.T) {
	long := times(api.MaxIdent+1, "x")
	for in, want := range map[string]fault{
		"x":                                {1, api.ErrParse},
		"x;":                               {1, api.ErrParse},
		"x = ;":                            {4, api.ErrParse},
		"x = 1":                            {5, api.ErrParse},
		"x = 1 y":                          {6, api.ErrParse},
		"x == 1;":                          {6, api.ErrParse},
		"x @low = 1;":                      {2, api.ErrParse},
		"x = y = 1;":                       {6, api.ErrParse},
		"m.v.w = 1;":                       {3, api.ErrParse},
		"1 = x;":                           {2, api.ErrParse},
		"1;":                               {1, api.ErrParse},
		"true = x;":                        {5, api.ErrParse},
		"-x = 1;":                          {3, api.ErrParse},
		"-f() ;":                           {5, api.ErrParse},
		"x + 1 # no\n;":                    {11, api.ErrParse},
		"declassify(x,@l);":                {16, api.ErrParse},
		"declassify(f(),@l) = 1;":          {19, api.ErrParse},
		"f()":                              {3, api.ErrParse},
		"f() = 1;":                         {4, api.ErrParse},
		"f()}":                             {3, api.ErrParse},
		";":                                {0, api.ErrParse},
		"f();;":                            {4, api.ErrParse},
		"{}":                               {0, api.ErrParse},
		"else {}":                          {0, api.ErrParse},
		"fn f() {}":                        {0, api.ErrParse},
		"x = 1; }":                         {7, api.ErrParse},
		"}":                                {0, api.ErrParse},
		"return 1;":                        {0, api.ErrParse},
		" f(); return":                     {6, api.ErrParse},
		"return }":                         {0, api.ErrParse},
		"let":                              {3, api.ErrParse},
		"let 1":                            {4, api.ErrParse},
		"let int":                          {4, api.ErrParse},
		"let " + long:                      {4, api.ErrParse},
		"let m.v: int = 1;":                {5, api.ErrParse},
		"let x int":                        {6, api.ErrParse},
		"let x: y":                         {7, api.ErrParse},
		"let x: ints = 1;":                 {7, api.ErrParse},
		"let x: @low = 1;":                 {7, api.ErrParse},
		"let x: int @ = 1;":                {13, api.ErrParse},
		"let x: int @ =low = 1;":           {13, api.ErrParse},
		"let x: int @= 1;":                 {14, api.ErrParse},
		"let x: int @=@low":                {13, api.ErrParse},
		"let x: int @bool = 1;":            {12, api.ErrParse},
		"let x: int @" + long:              {12, api.ErrParse},
		"let x: int @low @low = 1;":        {16, api.ErrParse},
		"let x: int @a.b = 1;":             {13, api.ErrParse},
		"let x: int;":                      {10, api.ErrParse},
		"let x: int == 1;":                 {11, api.ErrParse},
		"let x: int = ;":                   {13, api.ErrParse},
		"let x: int = 1":                   {14, api.ErrParse},
		"let x: int = 1, y":                {14, api.ErrParse},
		"do":                               {2, api.ErrParse},
		"do 1;":                            {3, api.ErrParse},
		"do do;":                           {3, api.ErrParse},
		"do net":                           {6, api.ErrParse},
		"do net()":                         {6, api.ErrParse},
		"do m.net;":                        {4, api.ErrParse},
		"if":                               {2, api.ErrParse},
		"if a":                             {3, api.ErrParse},
		"if {":                             {3, api.ErrParse},
		"if (":                             {4, api.ErrParse},
		"if ()":                            {4, api.ErrParse},
		"if (a":                            {5, api.ErrParse},
		"if (a {":                          {6, api.ErrParse},
		"if (a, b)":                        {5, api.ErrParse},
		"if (a)":                           {6, api.ErrParse},
		"if (a) x = 1;":                    {7, api.ErrParse},
		"if (a) else {}":                   {7, api.ErrParse},
		"if (a) {":                         {8, api.ErrParse},
		"if (a) { f(); ":                   {14, api.ErrParse},
		"if (a) { f() }":                   {13, api.ErrParse},
		"if (a) { return 1; }":             {9, api.ErrParse},
		"if (a) { f(); return }":           {14, api.ErrParse},
		"if (a) { else {}":                 {9, api.ErrParse},
		"if (a) {} else":                   {14, api.ErrParse},
		"if (a) {} else x = 1;":            {15, api.ErrParse},
		"if (a) {} else if (b) {}":         {15, api.ErrParse},
		"if (a) {} else {":                 {16, api.ErrParse},
		"if (a) {} else { return":          {17, api.ErrParse},
		"if (a) {} else {} else {}":        {18, api.ErrParse},
		"if (a) {};":                       {9, api.ErrParse},
		"while":                            {5, api.ErrParse},
		"while true {}":                    {6, api.ErrParse},
		"while (true) do x;":               {13, api.ErrParse},
		"while (a) {} else {}":             {13, api.ErrParse},
		"while (a) { while (b) { return":   {24, api.ErrParse},
		"x = 9223372036854775808;":         {4, api.ErrOver},
		"9223372036854775808;":             {0, api.ErrOver},
		"if (9223372036854775808":          {4, api.ErrOver},
		"f() 9223372036854775808":          {4, api.ErrParse},
		"x = " + times(33, "("):            {36, api.ErrDeep},
		"f(" + times(33, "-"):              {33, api.ErrDeep},
		times(32, "(") + "f()":             {33, api.ErrDeep},
		"while (" + times(33, "!"):         {39, api.ErrDeep},
		"let x: int = a" + times(32, "+a"): {76, api.ErrDeep},
		"x = ?;":                           {4, api.ErrLex},
		"let let ? let $":                  {8, api.ErrLex},
		"do net; & # $\n":                  {8, api.ErrLex},
		"} \x00":                           {2, api.ErrLex},
		times(33, "while (a) {") + "|":     {363, api.ErrLex},
	} {
		parses(t, in, nil, want.pos, want.err)
	}
}

func TestType(t *testing.T) {
	for _, c := range []struct {
		in   string
		kind int
		err  api.Errno
		pos  int
	}{
		{"int", api.TypeInt, api.OK, 3}, {" bool x", api.TypeBool, api.OK, 6}, {"#a\nint;", api.TypeInt, api.OK, 6},
		{"", 0, api.ErrParse, 0}, {" ", 0, api.ErrParse, 1}, {" ints", 0, api.ErrParse, 1}, {"Int", 0, api.ErrParse, 0},
		{"@low", 0, api.ErrParse, 0}, {"$int", 0, api.ErrParse, 0}, {"true", 0, api.ErrParse, 0}, {"1", 0, api.ErrParse, 0},
	} {
		k := expr.New([]byte(c.in))
		if kind, err := stmt.Type(k); kind != c.kind || err != c.err || k.Pos() != c.pos {
			t.Fatal(c, kind, err, k.Pos())
		}
	}
}

func TestMark(t *testing.T) {
	long := times(api.MaxIdent, "x")
	for _, c := range []struct {
		in   string
		want api.Ann
		err  api.Errno
		pos  int
	}{
		{"@low", mark(1, "low"), api.OK, 4},
		{"@=low", lock(2, "low"), api.OK, 5},
		{" @ low = 1", mark(3, "low"), api.OK, 7},
		{"@=#a\n low @high", lock(6, "low"), api.OK, 10},
		{"@" + long, mark(1, long), api.OK, 25},
		{"", none(0), api.OK, 0},
		{" ", none(0), api.OK, 1},
		{" = 1", none(0), api.OK, 1},
		{"low", none(0), api.OK, 0},
		{"$@low", none(0), api.OK, 0},
		{"@", api.Ann{}, api.ErrParse, 1},
		{"@ ", api.Ann{}, api.ErrParse, 2},
		{"@=", api.Ann{}, api.ErrParse, 2},
		{"@ =low", api.Ann{}, api.ErrParse, 2},
		{"@ @low", api.Ann{}, api.ErrParse, 2},
		{"@1", api.Ann{}, api.ErrParse, 1},
		{"@int", api.Ann{}, api.ErrParse, 1},
		{"@= if", api.Ann{}, api.ErrParse, 3},
		{"@$", api.Ann{}, api.ErrParse, 1},
		{"@" + long + "x", api.Ann{}, api.ErrParse, 1},
	} {
		k := expr.New([]byte(c.in))
		if a, err := stmt.Mark(k); a != c.want || err != c.err || k.Pos() != c.pos {
			t.Fatal(c, a, err, k.Pos())
		}
	}
	// One that lacks stands where the token ahead ends, whatever that is.
	for in, at := range map[string]int{"a": 1, " a ;": 2, "a # b\n;": 1, "a\n\n": 1} {
		k := expr.New([]byte(in))
		k.Take("a")
		pos := k.Pos()
		if a, err := stmt.Mark(k); a != none(at) || err != api.OK || k.Pos() != pos {
			t.Fatal(in, a, err, k.Pos())
		}
	}
}

// TestGoesOn reads statements one by one, and rows, of one cursor.
func TestGoesOn(t *testing.T) {
	c := expr.New([]byte("f(); if (a) {do x;} else {} x=1;} do y;return do z;"))
	one := func(want api.Stmt, wantErr api.Errno, pos int) {
		t.Helper()
		if s, err := stmt.Stmt(c, 0); !same(s, want) || err != wantErr || c.Pos() != pos {
			t.Fatalf("%+v, %d, at %d", s, err, c.Pos())
		}
	}
	all := func(want []api.Stmt, pos int) {
		t.Helper()
		if l, err := stmt.Row(c, 0); !sameRow(l, want) || err != api.OK || c.Pos() != pos {
			t.Fatalf("%+v, %d, at %d", l, err, c.Pos())
		}
	}
	one(call(0, read(0, "f()")), api.OK, 5)
	one(branch(5, read(9, "a"), row(do(13, "x")), nil), api.OK, 28)
	all(row(set(28, "x", read(30, "1"))), 32)
	all(nil, 32)
	one(api.Stmt{}, api.ErrParse, 32)
	c.Take("}")
	all(row(do(34, "y")), 39)
	all(nil, 39)
	one(api.Stmt{}, api.ErrParse, 39)
	c.Take("return")
	one(do(46, "z"), api.OK, 51)
	all(nil, 51)
	one(api.Stmt{}, api.ErrParse, 51)
	// Behind an error a cursor reads on from the place of that.
	c = expr.New([]byte("do x = f(); if (a) { return } do y;"))
	c.Take("do")
	if l, err := stmt.Row(c, 0); l != nil || err != api.ErrParse || c.Pos() != 21 {
		t.Fatal(l, err, c.Pos())
	}
	c.Take("return")
	all(nil, 28)
	c.Take("}")
	all(row(do(30, "y")), 35)
}

// nest is as many blocks as are asked for, one in the other, of all kinds.
func nest(n int) (in string, braces []int) {
	closes := ""
	for i := range n {
		in += []string{"while (a) ", "if(a)", "do x;if (f()) {} else "}[i%3]
		braces = append(braces, len(in))
		in += "{"
		closes = "}" + closes
	}
	return in + closes, braces
}

// TestDeep holds blocks that stand as deep as may be, and one deeper, against how deep they begin.
func TestDeep(t *testing.T) {
	for _, deep := range []int{math.MinInt, math.MinInt + 1, -100, -2, -1, 0, 1, 2, 15, 30, 31, 32, 33, 100, math.MaxInt - 1, math.MaxInt} {
		for n := range 140 {
			in, braces := nest(n)
			c := expr.New([]byte(in))
			l, err := stmt.Row(c, deep)
			// The third block is of an if whose first one is as deep as it is, and is told ahead of it.
			most := max(32-min(32, max(deep, -1000)), 0)
			want := fault{len(in), api.OK}
			if n > most {
				want = fault{braces[most], api.ErrDeep}
				if most%3 == 2 {
					want.pos -= len("{} else ")
				}
			}
			if (fault{c.Pos(), err}) != want || err != api.OK && l != nil {
				t.Fatal(deep, n, l, err, c.Pos(), want)
			}
			c = expr.New([]byte("if(a)" + in[:strings.Index(in+"{", "{")]))
			if _, err := stmt.Stmt(c, deep); err == api.ErrDeep {
				t.Fatal(deep, n, "an error of depth where no block is")
			}
		}
	}
}

// TestDeepErrors has what is told ahead of a block that stands too deep, and what behind it.
func TestDeepErrors(t *testing.T) {
	deep, _ := nest(32)
	most := strings.Index(deep, "}}")
	at, end := deep[:most], deep[most:]
	for in, want := range map[string]fault{
		at + end:                        {len(deep), api.OK},
		at + "do x;" + end:              {len(deep) + 5, api.OK},
		at + "if (a) {" + end:           {most + 7, api.ErrDeep},
		at + "while (a) {" + end:        {most + 10, api.ErrDeep},
		at + "while (a) do":             {most + 10, api.ErrParse},
		at + "while (a {":               {most + 9, api.ErrParse},
		at + "while (":                  {most + 7, api.ErrParse},
		at + "if (-) {":                 {most + 5, api.ErrParse},
		at + "if (9223372036854775808)": {most + 4, api.ErrOver},
		at + "if (a) {} $":              {most + 10, api.ErrLex},
		at + "{":                        {most, api.ErrParse},
		at + end[1:] + "{":              {len(deep) - 1, api.ErrParse},
	} {
		if l, pos, err := stmt.Parse([]byte(in)); (fault{pos, err}) != want || (l == nil) != (err != api.OK) {
			t.Fatal(in, l, pos, err, want)
		}
	}
	for in, want := range map[string]fault{
		"f(); do x;":             {5, api.OK},
		"if(a){}":                {5, api.ErrDeep},
		"if(a)else{}":            {5, api.ErrParse},
		"while(f(a)) {":          {12, api.ErrDeep},
		"while(f(a)) do":         {12, api.ErrParse},
		"while(f(a)":             {10, api.ErrParse},
		times(33, "(") + "if {}": {32, api.ErrDeep},
	} {
		for _, deep := range []int{32, 33, math.MaxInt} {
			c := expr.New([]byte(in))
			if s, err := stmt.Stmt(c, deep); (fault{c.Pos(), err}) != want || err != api.OK && !same(s, api.Stmt{}) {
				t.Fatal(in, deep, s, err, c.Pos(), want)
			}
		}
	}
}

// TestNoBound reads blocks beyond any depth, where a depth below 0 lets it: on a small stack.
func TestNoBound(t *testing.T) {
	defer debug.SetMaxStack(debug.SetMaxStack(2 << 20))
	const n = 20000
	text := []byte(times(n, "if(a){}else{do x;") + times(n, "}"))
	s, err := stmt.Stmt(expr.New(text), math.MinInt)
	if err != api.OK {
		t.Fatal(err)
	}
	for i := range n {
		next := s.Else
		if s.Kind != api.StmtIf || s.At != 17*i || len(s.L) != 0 || len(next) == 0 || !same(next[0], do(17*i+12, "x")) {
			t.Fatal(i, s.Kind, s.At)
		}
		if i < n-1 && len(next) != 2 || i == n-1 && len(next) != 1 {
			t.Fatal(i, len(next))
		}
		s = next[len(next)-1]
	}
	for _, deep := range []int{32 - n, 31 - n} {
		c := expr.New(text[:len(text)-1])
		l, err := stmt.Row(c, deep)
		if l != nil || err != api.ErrParse || c.Pos() != len(text)-1 {
			t.Fatal(l, err, c.Pos())
		}
	}
	c := expr.New(text)
	if l, err := stmt.Row(c, 33-n); l != nil || err != api.ErrDeep || c.Pos() != 17*(n-1)+5 {
		t.Fatal(l, err, c.Pos())
	}
}

// TestMany reads a row of very many statements.
func TestMany(t *testing.T) {
	const n = 30000
	l, pos, err := stmt.Parse([]byte(times(n, "do x;")))
	if err != api.OK || pos != 5*n || len(l) != n {
		t.Fatal(len(l), pos, err)
	}
	for i, s := range l {
		if !same(s, do(5*i, "x")) {
			t.Fatal(i, s)
		}
	}
}

// TestCutOff cuts texts off behind each token: where no statement ends there, the end is where it goes on otherwise.
func TestCutOff(t *testing.T) {
	for _, in := range []string{
		"let x : int @ low = 1 + 2 ; f ( x ) ;",
		"let x : bool @= low = ! f ( 1 , y ) ; let y : int = 2 ;",
		"m . v = declassify ( x , @ low ) ; ( x ) = ( 1 ) ;",
		"if ( a ) { do x ; if ( b ) { } else { do z ; } } else { do y ; while ( c < 1 ) { } }",
	} {
		words := strings.Fields(in)
		for n := range len(words) + 1 {
			cut := strings.Join(words[:n], " ")
			open := strings.Count(cut, "{") - strings.Count(cut, "}")
			whole := open == 0 && (n == 0 || words[n-1] == ";" || words[n-1] == "}")
			l, pos, err := stmt.Parse([]byte(cut))
			if pos != len(cut) || whole != (err == api.OK) || !whole && (err != api.ErrParse || l != nil) {
				t.Fatal(cut, l, pos, err)
			}
		}
	}
}

// A printed one is a text that statements were made to.
type printed struct {
	w   writer
	out string
}

// put lays a token behind a gap, and answers where it begins.
func (p *printed) put(s string) int {
	if p.out != "" && !strings.Contains("(){};:.,", p.out[len(p.out)-1:]) && !strings.Contains("(){};:.,", s[:1]) {
		p.out += " "
	}
	p.out += p.w.gap()
	p.out += s
	return len(p.out) - len(s)
}

func (p *printed) name() string {
	s := p.w.one([]string{"x", "net", "let_it", "_", times(24, "i"), "iff", "Int"})
	p.put(s)
	return s
}

func (p *printed) expr(l ...string) api.Expr {
	s := p.w.one(l)
	return read(p.put(s), s)
}

var someExprs = []string{"1", "true", "x", "m.v", "f()", "-x", "!f(1, x)", "a + 2 * (b - c)", "declassify(x, @low)", "a == b || c < 3", "(x)"}

func (p *printed) mark() api.Ann {
	end := len(p.out)
	sign := p.w.one([]string{"", "@", "@="})
	if sign == "" {
		return none(end)
	}
	p.put(sign)
	p.out += p.w.gap()
	label := p.w.one([]string{"low", "l", "high_2", times(24, "h")})
	a := mark(len(p.out), label)
	a.Lock = sign == "@="
	p.out += label
	return a
}

func (p *printed) let() api.Stmt {
	s := api.Stmt{Kind: api.StmtLet, At: p.put("let"), Name: p.name()}
	p.put(":")
	if p.w.IntN(2) == 0 {
		s.Type = api.TypeInt
		p.put("int")
	} else {
		s.Type = api.TypeBool
		p.put("bool")
	}
	s.Ann = p.mark()
	p.put("=")
	s.E = p.expr(someExprs...)
	p.put(";")
	return s
}

// asked prints a word, and what it asks.
func (p *printed) asked(word string) (int, api.Expr) {
	at := p.put(word)
	p.put("(")
	e := p.expr(someExprs...)
	p.put(")")
	return at, e
}

func (p *printed) block(height int) []api.Stmt {
	p.put("{")
	l := p.row(height)
	p.put("}")
	return l
}

func (p *printed) row(height int) []api.Stmt {
	var l []api.Stmt
	for range p.w.IntN(4) {
		l = append(l, p.stmt(height))
	}
	return l
}

// stmt makes a statement with at most so many blocks in one another, and prints it.
func (p *printed) stmt(height int) api.Stmt {
	if height > 0 && p.w.IntN(3) > 0 {
		if p.w.IntN(3) == 0 {
			at, e := p.asked("while")
			return loop(at, e, p.block(height-1)...)
		}
		at, e := p.asked("if")
		s := branch(at, e, p.block(height-1), nil)
		if p.w.IntN(2) == 0 {
			p.put("else")
			s.Else = p.block(height - 1)
		}
		return s
	}
	switch p.w.IntN(4) {
	case 0:
		return p.let()
	case 1:
		s := do(p.put("do"), "")
		s.Name = p.name()
		p.put(";")
		return s
	case 2:
		e := p.expr("f()", "m.f(1, x)", "g(h(), -1)", "_ ( x )")
		p.put(";")
		return call(e.At, e)
	}
	left := p.expr("x", "m.v", "m . v", "_")
	s := set(left.At, left.Name, api.Expr{})
	p.put("=")
	s.E = p.expr(someExprs...)
	p.put(";")
	return s
}

// TestPrinted prints statements, and reads them again.
func TestPrinted(t *testing.T) {
	for seed := range uint64(1500) {
		p := &printed{w: newWriter(seed)}
		want := p.row(1 + p.w.IntN(5))
		p.out += p.w.gap()
		parses(t, p.out, want, len(p.out), api.OK)
		for _, end := range []string{"}", "return", "} ?", "return }"} {
			c := expr.New([]byte(p.out + " " + end))
			l, err := stmt.Row(c, 0)
			if !sameRow(l, want) || err != api.OK || c.Pos() != len(p.out)+1 {
				t.Fatal(p.out, end, l, err, c.Pos())
			}
		}
	}
}

func TestNil(t *testing.T) {
	if kind, err := stmt.Type(nil); kind != 0 || err != api.ErrArg {
		t.Fatal(kind, err)
	}
	if a, err := stmt.Mark(nil); a != (api.Ann{}) || err != api.ErrArg {
		t.Fatal(a, err)
	}
	for _, deep := range []int{math.MinInt, -1, 0, 32, 33, math.MaxInt} {
		if s, err := stmt.Stmt(nil, deep); !same(s, api.Stmt{}) || err != api.ErrArg {
			t.Fatal(s, err)
		}
		if l, err := stmt.Row(nil, deep); l != nil || err != api.ErrArg {
			t.Fatal(l, err)
		}
		// A cursor that New didn't make, and one of no bytes, are the same thing.
		for _, c := range []*expr.Cursor{{}, expr.New(nil)} {
			if l, err := stmt.Row(c, deep); len(l) != 0 || err != api.OK {
				t.Fatal(l, err)
			}
			if s, err := stmt.Stmt(c, deep); !same(s, api.Stmt{}) || err != api.ErrParse {
				t.Fatal(s, err)
			}
		}
	}
	parses(t, "", nil, 0, api.OK)
	if l, pos, err := stmt.Parse(nil); len(l) != 0 || pos != 0 || err != api.OK {
		t.Fatal(l, pos, err)
	}
}

// over writes over all of an expression, and what lies behind its lists; overAll over all of statements.
func over(e *api.Expr) {
	l := e.L[:cap(e.L)]
	for i := range l {
		over(&l[i])
	}
	*e = api.Expr{Kind: -1, At: -1, Num: -1, Name: "?", Label: "?"}
}

func overAll(l []api.Stmt) {
	l = l[:cap(l)]
	for i := range l {
		over(&l[i].E)
		overAll(l[i].L)
		overAll(l[i].Else)
		l[i] = api.Stmt{Kind: -1, At: -1, Name: "?", Type: -1, Ann: api.Ann{Label: "?"}}
	}
}

// TestMemory writes over answers; nothing else may change by it.
func TestMemory(t *testing.T) {
	text := "do a; do b; do c; if (f(a,b,c)) { do a; do b; do c; x = f(a,b); } else { do a; do b; do c; } do d; while (a) { do a; do b; do c; } do e; let x: int @low = f(a,b,c);"
	in := []byte(text)
	want, _, _ := stmt.Parse(slices.Clone(in))
	for _, part := range []func(s *api.Stmt) []api.Stmt{
		func(s *api.Stmt) []api.Stmt { return s.L },
		func(s *api.Stmt) []api.Stmt { return s.Else },
		func(s *api.Stmt) []api.Stmt { over(&s.E); return nil },
	} {
		for i := range want {
			l, _, err := stmt.Parse(in)
			if err != api.OK || !sameRow(l, want) || string(in) != text {
				t.Fatal(l, err)
			}
			kept := l[i]
			overAll(part(&l[i]))
			l[i].E, l[i].L, l[i].Else = want[i].E, want[i].L, want[i].Else
			if !sameRow(l, want) {
				t.Fatal(i, "two lists share memory")
			}
			l[i] = kept
			overAll(l)
		}
	}
	// What is read of a cursor hangs on it no longer, and a row not on the one ahead of it.
	c := expr.New(in)
	again := *c
	first, err := stmt.Row(c, 0)
	if err != api.OK || !sameRow(first, want) {
		t.Fatal(first, err)
	}
	overAll(first)
	clear(in)
	if second, err := stmt.Row(&again, 0); err != api.OK || !sameRow(second, want) {
		t.Fatal(second, err)
	}
}
