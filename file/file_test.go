package file_test

import (
	"math"
	"math/rand/v2"
	"reflect"
	"runtime/debug"
	"slices"
	"strings"
	"testing"

	"blazon/api"
	"blazon/expr"
	"blazon/file"
	"blazon/stmt"
)

// A writer writes texts, the same ones in each run.
type writer struct{ *rand.Rand }

func newWriter(seed uint64) writer { return writer{rand.New(rand.NewPCG(seed, 0))} }

func (w writer) one(l []string) string { return l[w.IntN(len(l))] }

// gap is what may stand between two tokens.
func (w writer) gap() string {
	return w.one([]string{"", "", " ", "\n", "\t \r", " #fn $ {\n", "#\n"})
}

func times(n int, s string) string { return strings.Repeat(s, n) }

// value is the expression that a text is, and body the statements, as if they began at a place.
func value(at int, in string) api.Expr {
	e, _, err := expr.Parse([]byte(in))
	if err != api.OK {
		panic(in)
	}
	shiftExpr(&e, at)
	return e
}

func body(at int, in string) []api.Stmt {
	l, _, err := stmt.Parse([]byte(in))
	if err != api.OK {
		panic(in)
	}
	shiftRow(l, at)
	return l
}

func shiftExpr(e *api.Expr, n int) {
	e.At += n
	for i := range e.L {
		shiftExpr(&e.L[i], n)
	}
}

func shiftRow(l []api.Stmt, n int) {
	for i := range l {
		s := &l[i]
		s.At += n
		if s.Kind == api.StmtLet {
			shiftAnn(&s.Ann, n)
		}
		if s.Kind != api.StmtDo {
			shiftExpr(&s.E, n)
		}
		shiftRow(s.L, n)
		shiftRow(s.Else, n)
	}
}

func shiftAnn(a *api.Ann, n int) {
	a.From += n
	a.To += n
}

func shiftVars(l []api.Var, n int) {
	for i := range l {
		l[i].At += n
		shiftAnn(&l[i].Ann, n)
	}
}

func shiftNames(l []api.Name, n int) {
	for i := range l {
		l[i].At += n
	}
}

// shift moves all that a file says by so many places.
func shift(m *api.Module, n int) {
	shiftNames(m.Imports, n)
	for i := range m.Lattice {
		m.Lattice[i].At += n
	}
	shiftNames(m.Effects, n)
	shiftVars(m.Vars, n)
	for i := range m.Fns {
		f := &m.Fns[i]
		f.At += n
		shiftVars(f.Params, n)
		shiftAnn(&f.Ann, n)
		shiftNames(f.Row.L, n)
		shiftRow(f.Body, n)
		shiftExpr(&f.Ret, n)
	}
}

// plain makes of each list without elements one that is nil, since these are the same thing.
func plain(v reflect.Value) {
	switch v.Kind() {
	case reflect.Struct:
		for i := range v.NumField() {
			plain(v.Field(i))
		}
	case reflect.Slice:
		if v.Len() == 0 {
			v.SetZero()
		}
		for i := range v.Len() {
			plain(v.Index(i))
		}
	}
}

// same tells whether two files say the same, down to the last part.
func same(a, b api.Module) bool {
	plain(reflect.ValueOf(&a).Elem())
	plain(reflect.ValueOf(&b).Elem())
	return reflect.DeepEqual(a, b)
}

// parses asks for what a file says, and for nothing at all where an error is wanted.
func parses(t *testing.T, in string, want api.Module, pos int, wantErr api.Errno) {
	t.Helper()
	m, at, err := file.Parse([]byte(in))
	if !same(m, want) || at != pos || err != wantErr {
		t.Fatalf("Parse(%q): %+v, %d, %d; not %+v, %d, %d", in, m, at, err, want, pos, wantErr)
	}
}

func none(at int) api.Ann { return api.Ann{From: at, To: at} }

func mark(at int, label string) api.Ann {
	return api.Ann{Some: true, Label: label, From: at, To: at + len(label)}
}

func lock(at int, label string) api.Ann {
	a := mark(at, label)
	a.Lock = true
	return a
}

func variable(at int, name string, kind int, a api.Ann) api.Var {
	return api.Var{Name: name, At: at, Type: kind, Ann: a}
}

func effects(l ...api.Name) api.Row { return api.Row{Some: true, L: l} }

func imports(l ...api.Name) api.Module    { return api.Module{Imports: l} }
func lattice(l ...api.Pair) api.Module    { return api.Module{HasLattice: true, Lattice: l} }
func allEffects(l ...api.Name) api.Module { return api.Module{HasEffects: true, Effects: l} }
func vars(l ...api.Var) api.Module        { return api.Module{Vars: l} }
func fns(l ...api.Fn) api.Module          { return api.Module{Fns: l} }

func TestParse(t *testing.T) {
	long := times(api.MaxIdent, "x")
	one := value
	for in, want := range map[string]api.Module{
		"":                  {},
		" # import a;\n":    {},
		"import a;":         imports(api.Name{Name: "a", At: 7}),
		" import # b;\n a;": imports(api.Name{Name: "a", At: 14}),
		"import b;import a;import b;": imports(
			api.Name{Name: "b", At: 7}, api.Name{Name: "a", At: 16}, api.Name{Name: "b", At: 25}),
		"import " + long + ";":   imports(api.Name{Name: long, At: 7}),
		"lattice {}":             lattice(),
		"lattice { a; }":         lattice(api.Pair{Low: "a", At: 10}),
		"lattice{a<b;}":          lattice(api.Pair{Low: "a", High: "b", At: 8}),
		"lattice { a ; b < a; }": lattice(api.Pair{Low: "a", At: 10}, api.Pair{Low: "b", High: "a", At: 14}),
		"lattice {a<a;a<b;b<a;a;a;}": lattice(
			api.Pair{Low: "a", High: "a", At: 9}, api.Pair{Low: "a", High: "b", At: 13}, api.Pair{Low: "b", High: "a", At: 17},
			api.Pair{Low: "a", At: 21}, api.Pair{Low: "a", At: 23}),
		"effects {}":               allEffects(),
		"effects { net; log; }":    allEffects(api.Name{Name: "net", At: 10}, api.Name{Name: "log", At: 15}),
		"effects{a;a;}":            allEffects(api.Name{Name: "a", At: 8}, api.Name{Name: "a", At: 10}),
		"var x: int;":              vars(variable(4, "x", api.TypeInt, none(10))),
		"var x: bool ;":            vars(variable(4, "x", api.TypeBool, none(11))),
		"var x:int # @no\n;":       vars(variable(4, "x", api.TypeInt, none(9))),
		"var x: int @low;":         vars(variable(4, "x", api.TypeInt, mark(12, "low"))),
		"var x: bool @=\nlow;":     vars(variable(4, "x", api.TypeBool, lock(15, "low"))),
		"var x:int@l;var x:int;":   vars(variable(4, "x", api.TypeInt, mark(10, "l")), variable(16, "x", api.TypeInt, none(21))),
		"fn f(): int {return 1;}":  fns(api.Fn{Name: "f", At: 3, Ann: none(11), Ret: one(20, "1")}),
		"fn f():bool{return!a<b;}": fns(api.Fn{Name: "f", At: 3, Type: api.TypeBool, Ann: none(11), Ret: one(18, "!a<b")}),
		"fn f(): int @low {return x;}": fns(
			api.Fn{Name: "f", At: 3, Ann: mark(13, "low"), Ret: one(25, "x")}),
		"fn f(): int /{} {return 1;}": fns(
			api.Fn{Name: "f", At: 3, Ann: none(11), Row: effects(), Ret: one(24, "1")}),
		"fn f(): int @=low / {net} {return 1;}": fns(
			api.Fn{Name: "f", At: 3, Ann: lock(14, "low"), Row: effects(api.Name{Name: "net", At: 21}), Ret: one(34, "1")}),
		"fn f(): int /{a , b,a} {return 1;}": fns(
			api.Fn{Name: "f", At: 3, Ann: none(11), Ret: one(31, "1"),
				Row: effects(api.Name{Name: "a", At: 14}, api.Name{Name: "b", At: 18}, api.Name{Name: "a", At: 20})}),
		"fn f(a: int): int {return a;}": fns(
			api.Fn{Name: "f", At: 3, Params: []api.Var{variable(5, "a", api.TypeInt, none(11))}, Ann: none(17), Ret: one(26, "a")}),
		"fn f(a:bool@l,b : int @=h , a:int): int {return 1;}": fns(
			api.Fn{Name: "f", At: 3, Ann: none(39), Ret: one(48, "1"), Params: []api.Var{
				variable(5, "a", api.TypeBool, mark(12, "l")), variable(14, "b", api.TypeInt, lock(24, "h")), variable(28, "a", api.TypeInt, none(33))}}),
		"fn f(): int {do a; x = 1; return 1;}": fns(
			api.Fn{Name: "f", At: 3, Ann: none(11), Body: body(13, "do a; x = 1; "), Ret: one(33, "1")}),
		"fn f(): int {if (a) {let b: int = 1;} return (f());}": fns(
			api.Fn{Name: "f", At: 3, Ann: none(11), Body: body(13, "if (a) {let b: int = 1;} "), Ret: one(46, "f()")}),
		"fn f(): int {return 1;} fn f(): int {return 2;}": fns(
			api.Fn{Name: "f", At: 3, Ann: none(11), Ret: one(20, "1")}, api.Fn{Name: "f", At: 27, Ann: none(35), Ret: one(44, "2")}),
		"var a:int;effects{a;}fn a():int{return 1;}lattice{a;}var b:int;import a;": {
			Imports:    []api.Name{{Name: "a", At: 70}},
			HasLattice: true, Lattice: []api.Pair{{Low: "a", At: 50}},
			HasEffects: true, Effects: []api.Name{{Name: "a", At: 18}},
			Vars: []api.Var{variable(4, "a", api.TypeInt, none(9)), variable(57, "b", api.TypeInt, none(62))},
			Fns:  []api.Fn{{Name: "a", At: 24, Ann: none(31), Ret: one(39, "1")}},
		},
	} {
		parses(t, in, want, len(in), api.OK)
	}
}

// A fault is where an error is, and which one.
type fault struct {
	pos int
	err api.Errno
}

func TestParseErrors(t *testing.T) {
	long := times(api.MaxIdent+1, "x")
	for in, want := range map[string]fault{
		"x":                                    {0, api.ErrParse},
		" ;":                                   {1, api.ErrParse},
		"#a\n}":                                {3, api.ErrParse},
		"let x: int = 1;":                      {0, api.ErrParse},
		"return 1;":                            {0, api.ErrParse},
		"import":                               {6, api.ErrParse},
		"import ;":                             {7, api.ErrParse},
		"import if;":                           {7, api.ErrParse},
		"import 1;":                            {7, api.ErrParse},
		"import " + long:                       {7, api.ErrParse},
		"import a":                             {8, api.ErrParse},
		"import a.b;":                          {8, api.ErrParse},
		"import a, b;":                         {8, api.ErrParse},
		"import a;;":                           {9, api.ErrParse},
		"imports a;":                           {0, api.ErrParse},
		"lattice":                              {7, api.ErrParse},
		"lattice a;":                           {8, api.ErrParse},
		"lattice {":                            {9, api.ErrParse},
		"lattice {;}":                          {9, api.ErrParse},
		"lattice {a}":                          {10, api.ErrParse},
		"lattice {a":                           {10, api.ErrParse},
		"lattice {a;":                          {11, api.ErrParse},
		"lattice {a, b}":                       {10, api.ErrParse},
		"lattice {a<}":                         {11, api.ErrParse},
		"lattice {a<;}":                        {11, api.ErrParse},
		"lattice {a<b}":                        {12, api.ErrParse},
		"lattice {a<b<c;}":                     {12, api.ErrParse},
		"lattice {a b;}":                       {11, api.ErrParse},
		"lattice {a<int;}":                     {11, api.ErrParse},
		"lattice {a<" + long + ";}":            {11, api.ErrParse},
		"lattice {int;}":                       {9, api.ErrParse},
		"lattice {<b;}":                        {9, api.ErrParse},
		"lattice {a;};":                        {12, api.ErrParse},
		"lattice {a == b;}":                    {11, api.ErrParse},
		"lattice {} lattice {}":                {11, api.ErrParse},
		"lattice {} import a; lattice":         {21, api.ErrParse},
		"lattice {} effects {} lattice {}":     {22, api.ErrParse},
		"effects":                              {7, api.ErrParse},
		"effects net;":                         {8, api.ErrParse},
		"effects {":                            {9, api.ErrParse},
		"effects {net}":                        {12, api.ErrParse},
		"effects {net, log}":                   {12, api.ErrParse},
		"effects {net<log;}":                   {12, api.ErrParse},
		"effects {net;":                        {13, api.ErrParse},
		"effects {;}":                          {9, api.ErrParse},
		"effects {do;}":                        {9, api.ErrParse},
		"effects {a.b;}":                       {10, api.ErrParse},
		"effects {} effects {}":                {11, api.ErrParse},
		"effects {} lattice {} effects":        {22, api.ErrParse},
		"effects {a;} fn effects":              {16, api.ErrParse},
		"var":                                  {3, api.ErrParse},
		"var int":                              {4, api.ErrParse},
		"var x int;":                           {6, api.ErrParse},
		"var x":                                {5, api.ErrParse},
		"var x:":                               {6, api.ErrParse},
		"var x: y;":                            {7, api.ErrParse},
		"var x: @low;":                         {7, api.ErrParse},
		"var x: int":                           {10, api.ErrParse},
		"var x: int @":                         {12, api.ErrParse},
		"var x: int @;":                        {12, api.ErrParse},
		"var x: int @= fn;":                    {14, api.ErrParse},
		"var x: int @low":                      {15, api.ErrParse},
		"var x: int @low @low;":                {16, api.ErrParse},
		"var x: int = 1;":                      {11, api.ErrParse},
		"var x: int /{};":                      {11, api.ErrParse},
		"var x, y: int;":                       {5, api.ErrParse},
		"var x.y: int;":                        {5, api.ErrParse},
		"fn":                                   {2, api.ErrParse},
		"fn 1":                                 {3, api.ErrParse},
		"fn fn(":                               {3, api.ErrParse},
		"fn f":                                 {4, api.ErrParse},
		"fn f:":                                {4, api.ErrParse},
		"fn m.f()":                             {4, api.ErrParse},
		"fn f(":                                {5, api.ErrParse},
		"fn f(,":                               {5, api.ErrParse},
		"fn f(int":                             {5, api.ErrParse},
		"fn f(a)":                              {6, api.ErrParse},
		"fn f(a:)":                             {7, api.ErrParse},
		"fn f(a: int":                          {11, api.ErrParse},
		"fn f(a: int;":                         {11, api.ErrParse},
		"fn f(a: int @)":                       {13, api.ErrParse},
		"fn f(a: int,)":                        {12, api.ErrParse},
		"fn f(a: int,":                         {12, api.ErrParse},
		"fn f(a: int,,":                        {12, api.ErrParse},
		"fn f(a: int b":                        {12, api.ErrParse},
		"fn f(a: int = 1)":                     {12, api.ErrParse},
		"fn f()":                               {6, api.ErrParse},
		"fn f() {":                             {7, api.ErrParse},
		"fn f() int":                           {7, api.ErrParse},
		"fn f():":                              {7, api.ErrParse},
		"fn f(): {":                            {8, api.ErrParse},
		"fn f(): @l":                           {8, api.ErrParse},
		"fn f(): int":                          {11, api.ErrParse},
		"fn f(): int;":                         {11, api.ErrParse},
		"fn f(): int @ {":                      {14, api.ErrParse},
		"fn f(): int @l @l":                    {15, api.ErrParse},
		"fn f(): int /":                        {13, api.ErrParse},
		"fn f(): int / net":                    {14, api.ErrParse},
		"fn f(): int /{":                       {14, api.ErrParse},
		"fn f(): int /{,":                      {14, api.ErrParse},
		"fn f(): int /{net":                    {17, api.ErrParse},
		"fn f(): int /{net;":                   {17, api.ErrParse},
		"fn f(): int /{net,}":                  {18, api.ErrParse},
		"fn f(): int /{net log}":               {18, api.ErrParse},
		"fn f(): int /{net.log}":               {17, api.ErrParse},
		"fn f(): int /{do}":                    {14, api.ErrParse},
		"fn f(): int /{} /{}":                  {16, api.ErrParse},
		"fn f(): int /{} @l":                   {16, api.ErrParse},
		"fn f(): int /{} return":               {16, api.ErrParse},
		"fn f(): int return":                   {12, api.ErrParse},
		"fn f(): int {":                        {13, api.ErrParse},
		"fn f(): int {}":                       {13, api.ErrParse},
		"fn f(): int {f()":                     {16, api.ErrParse},
		"fn f(): int {f();}":                   {17, api.ErrParse},
		"fn f(): int {x == 1;":                 {19, api.ErrParse},
		"fn f(): int {{}":                      {13, api.ErrParse},
		"fn f(): int {var x: int;":             {13, api.ErrParse},
		"fn f(): int {if (a) {return 1;}":      {21, api.ErrParse},
		"fn f(): int {return":                  {19, api.ErrParse},
		"fn f(): int {return;":                 {19, api.ErrParse},
		"fn f(): int {return }":                {20, api.ErrParse},
		"fn f(): int {return 1":                {21, api.ErrParse},
		"fn f(): int {return 1}":               {21, api.ErrParse},
		"fn f(): int {return 1 2;":             {22, api.ErrParse},
		"fn f(): int {return x = 1;":           {22, api.ErrParse},
		"fn f(): int {return 1;":               {22, api.ErrParse},
		"fn f(): int {return 1; f();}":         {23, api.ErrParse},
		"fn f(): int {return 1; return 1;}":    {23, api.ErrParse},
		"fn f(): int {return 1;};":             {23, api.ErrParse},
		"fn f(): int {return 1;}}":             {23, api.ErrParse},
		"fn f(): int {x = 9223372036854775808": {17, api.ErrOver},
		"fn f(): int {return 9223372036854775808": {20, api.ErrOver},
		"var x: int 9223372036854775808;":         {11, api.ErrParse},
		"fn f(): int {return " + times(33, "("):   {52, api.ErrDeep},
		"fn f(): int {g(" + times(33, "-"):        {46, api.ErrDeep},
		"fn f(): int {return a" + times(32, "+a"): {83, api.ErrDeep},
		"var x: int; $":                      {12, api.ErrLex},
		"x & y $":                            {2, api.ErrLex},
		"lattice {} lattice {} \x00":         {22, api.ErrLex},
		"fn f(" + times(9, "a: int, ") + "?": {77, api.ErrLex},
		"import a; import b; import":         {26, api.ErrParse},
	} {
		parses(t, in, api.Module{}, want.pos, want.err)
	}
}

// TestLong holds texts of MaxText bytes, and of more, whatever stands in them.
func TestLong(t *testing.T) {
	head, tail := "var x: int; #", "\nfn f(): int {return 1;}"
	fits := head + times(api.MaxText-len(head)-len(tail), "$") + tail
	parses(t, fits, api.Module{
		Vars: []api.Var{variable(4, "x", api.TypeInt, none(10))},
		Fns:  []api.Fn{{Name: "f", At: api.MaxText - 20, Ann: none(api.MaxText - 12), Ret: value(api.MaxText-3, "1")}},
	}, api.MaxText, api.OK)
	parses(t, times(api.MaxText, " "), api.Module{}, api.MaxText, api.OK)
	parses(t, times(api.MaxText-1, " ")+"$", api.Module{}, api.MaxText-1, api.ErrLex)
	parses(t, times(api.MaxText-1, " ")+"x", api.Module{}, api.MaxText-1, api.ErrParse)
	for _, in := range []string{fits + " ", fits + "$", "$" + fits, "x " + fits, times(api.MaxText+1, "$"), times(40000, "import a;"), fits[:api.MaxText-1] + "}}"} {
		parses(t, in, api.Module{}, api.MaxText, api.ErrLong)
	}
	many := times(api.MaxText/len("var x: int;"), "var x: int;")
	m, pos, err := file.Parse([]byte(many))
	if err != api.OK || pos != len(many) || len(m.Vars) != len(many)/11 || len(file.Marks(m)) != len(many)/11 {
		t.Fatal(len(m.Vars), pos, err)
	}
}

// TestParams holds eight parameters, and what stands behind a comma behind them.
func TestParams(t *testing.T) {
	for n := range 12 {
		in := "fn f(" + strings.Join(slices.Repeat([]string{"a: int"}, n), ", ") + "): int {return 1;}"
		m, pos, err := file.Parse([]byte(in))
		if n > api.MaxParams {
			parses(t, in, api.Module{}, len("fn f(")+8*api.MaxParams, api.ErrLong)
		} else if err != api.OK || pos != len(in) || len(m.Fns[0].Params) != n || len(file.Marks(m)) != n+1 {
			t.Fatal(in, m, pos, err)
		}
	}
	most := "fn f(" + strings.Join(slices.Repeat([]string{"a: int"}, api.MaxParams), ", ")
	for in, want := range map[string]fault{
		"":                                  {0, api.ErrParse},
		" b":                                {1, api.ErrParse},
		";":                                 {0, api.ErrParse},
		" @l @l":                            {4, api.ErrParse},
		",":                                 {1, api.ErrLong},
		" , ":                               {3, api.ErrLong},
		", # b\n c: int)":                   {7, api.ErrLong},
		",)":                                {1, api.ErrLong},
		",,":                                {1, api.ErrLong},
		", if":                              {2, api.ErrLong},
		", 9223372036854775808":             {2, api.ErrLong},
		" @ , b":                            {3, api.ErrParse},
		"@l, b: int, c: int":                {4, api.ErrLong},
		", b: int $":                        {9, api.ErrLex},
		"): int {return 1;} fn g(a: int,,)": {31, api.ErrParse},
	} {
		parses(t, most+in, api.Module{}, len(most)+want.pos, want.err)
	}
	// What isn't a parameter isn't counted: neither effects nor a call's.
	nine := times(8, "a,") + "a"
	in := most + "): int /{" + nine + "} {f(" + nine + "); return f(" + nine + ");} fn g(" + most[5:] + "): int {return 1;}"
	if m, pos, err := file.Parse([]byte(in)); err != api.OK || pos != len(in) || len(m.Fns[0].Row.L) != 9 || len(m.Fns[1].Params) != 8 {
		t.Fatal(m, pos, err)
	}
}

// TestDeep has blocks in a function's one, as deep as may be, and one deeper.
func TestDeep(t *testing.T) {
	head := "fn f(): int {"
	for n := range 40 {
		in := head + times(n, "if(a){") + times(n, "}") + "return 1;}"
		if n < api.MaxDeep {
			m, pos, err := file.Parse([]byte(in))
			if err != api.OK || pos != len(in) || !same(m, fns(api.Fn{
				Name: "f", At: 3, Ann: none(11), Body: body(13, times(n, "if(a){")+times(n, "}")), Ret: value(len(in)-3, "1")})) {
				t.Fatal(n, m, pos, err)
			}
			continue
		}
		at := len(head) + 6*api.MaxDeep - 1
		parses(t, in, api.Module{}, at, api.ErrDeep)
		parses(t, in[:at], api.Module{}, at, api.ErrParse)
		parses(t, in[:at]+"{ ;", api.Module{}, at, api.ErrDeep)
		parses(t, in[:at]+"{ |", api.Module{}, at+2, api.ErrLex)
		parses(t, "; "+in, api.Module{}, 0, api.ErrParse)
	}
}

// TestCutOff cuts texts off behind each token: where no item ends there, the end is where it goes on otherwise.
func TestCutOff(t *testing.T) {
	for _, in := range []string{
		"import a ; lattice { a ; a < b ; } effects { net ; } var x : int ;",
		"effects { } var y : bool @= high ; lattice { } import b ;",
		"fn f ( ) : int { return 1 ; } fn g ( a : int ) : bool @ low / { } { return true ; }",
		"fn f ( a : int @ low , b : bool @= high ) : int @= a / { net , log } { do net ; if ( b ) { f ( 1 , b ) ; } else { } return a + 1 ; }",
	} {
		words := strings.Fields(in)
		for n := range len(words) + 1 {
			cut := strings.Join(words[:n], " ")
			open := strings.Count(cut, "{") - strings.Count(cut, "}")
			fn := strings.LastIndex(cut, "fn ")
			whole := open == 0 && (n == 0 || words[n-1] == ";" || words[n-1] == "}") && (fn < 0 || strings.Contains(cut[fn:], "return"))
			m, pos, err := file.Parse([]byte(cut))
			if pos != len(cut) || whole != (err == api.OK) || !whole && (err != api.ErrParse || !same(m, api.Module{})) {
				t.Fatal(cut, m, pos, err)
			}
		}
	}
}

func TestMarks(t *testing.T) {
	let := func(a api.Ann) api.Stmt { return api.Stmt{Kind: api.StmtLet, Ann: a} }
	block := func(kind int, l, other []api.Stmt) api.Stmt { return api.Stmt{Kind: kind, L: l, Else: other} }
	row := func(l ...api.Stmt) []api.Stmt { return l }
	for i, c := range []struct {
		m    api.Module
		want []api.Ann
	}{
		{api.Module{}, nil},
		{imports(api.Name{Name: "a", At: 7}), nil},
		{vars(variable(4, "x", 0, none(10))), []api.Ann{none(10)}},
		{vars(variable(4, "x", 0, none(10)), variable(14, "x", 1, lock(22, "l"))), []api.Ann{none(10), lock(22, "l")}},
		{vars(variable(14, "x", 1, lock(22, "l")), variable(4, "x", 0, none(10))), []api.Ann{none(10), lock(22, "l")}},
		{fns(api.Fn{Ann: mark(8, "l")}), []api.Ann{mark(8, "l")}},
		{fns(api.Fn{Params: []api.Var{{Ann: none(1)}, {Ann: mark(3, "l")}}, Ann: none(5)}), []api.Ann{none(1), mark(3, "l"), none(5)}},
		{fns(api.Fn{Ann: none(math.MaxInt)}, api.Fn{Ann: none(math.MinInt)}, api.Fn{Ann: none(-1)}, api.Fn{Ann: none(0)}),
			[]api.Ann{none(math.MinInt), none(-1), none(0), none(math.MaxInt)}},
		{fns(api.Fn{Ann: none(1), Body: row(let(none(2)), block(api.StmtIf, row(let(none(3)), let(none(4))), row(let(none(5)))), let(none(6)),
			block(api.StmtWhile, row(block(api.StmtWhile, row(let(lock(7, "a"))), nil), let(none(9))), nil), let(none(10)))}),
			[]api.Ann{none(1), none(2), none(3), none(4), none(5), none(6), lock(7, "a"), none(9), none(10)}},
		// Of the same place those of variables stand ahead, and those of a function as its text has them.
		{api.Module{Vars: []api.Var{{Ann: mark(0, "a")}, {Ann: mark(0, "b")}}, Fns: []api.Fn{
			{Params: []api.Var{{Ann: mark(0, "c")}, {Ann: mark(0, "d")}}, Ann: mark(0, "e"), Body: row(
				block(api.StmtIf, row(let(mark(0, "f"))), row(block(api.StmtWhile, row(let(mark(0, "g"))), nil), let(mark(0, "h")))), let(mark(0, "i")))},
			{Ann: mark(0, "j")}}},
			[]api.Ann{mark(0, "a"), mark(0, "b"), mark(0, "c"), mark(0, "d"), mark(0, "e"), mark(0, "f"), mark(0, "g"), mark(0, "h"), mark(0, "i"), mark(0, "j")}},
		// The annotation of what may have none isn't one.
		{fns(api.Fn{Ann: none(1), Body: row(
			api.Stmt{Kind: api.StmtSet, Ann: mark(2, "a")}, api.Stmt{Kind: api.StmtDo, Ann: mark(3, "a")}, api.Stmt{Kind: api.StmtCall, Ann: mark(4, "a")},
			api.Stmt{Kind: api.StmtIf, Ann: mark(5, "a")}, api.Stmt{Kind: api.StmtWhile, Ann: mark(6, "a")},
			api.Stmt{Kind: -1, Ann: mark(7, "a")}, api.Stmt{Kind: 6, Ann: mark(8, "a")})}), []api.Ann{none(1)}},
		// An annotation of any parts stays as it is.
		{vars(api.Var{Type: -3, Ann: api.Ann{Lock: true, Label: "$", From: 9, To: 2}}), []api.Ann{{Lock: true, Label: "$", From: 9, To: 2}}},
	} {
		if l := file.Marks(c.m); !slices.Equal(l, c.want) {
			t.Fatal(i, l, c.want)
		}
	}
}

// TestMarksMany has many annotations of few places, whose ends stand in no order.
func TestMarksMany(t *testing.T) {
	for seed := range uint64(200) {
		w := newWriter(seed)
		var m api.Module
		var all []api.Ann
		some := func() api.Ann {
			all = append(all, api.Ann{Label: times(len(all), "l"), From: w.IntN(4), To: w.IntN(8) - 2})
			return all[len(all)-1]
		}
		for range w.IntN(30) {
			m.Vars = append(m.Vars, api.Var{Ann: some()})
		}
		for range w.IntN(10) {
			f := api.Fn{Params: []api.Var{{Ann: some()}, {Ann: some()}}, Ann: some()}
			f.Body = []api.Stmt{{Kind: api.StmtLet, Ann: some()}}
			m.Fns = append(m.Fns, f)
		}
		var want []api.Ann
		for from := range 4 {
			for _, a := range all {
				if a.From == from {
					want = append(want, a)
				}
			}
		}
		if l := file.Marks(m); !slices.Equal(l, want) {
			t.Fatal(seed, l, want)
		}
	}
}

// TestMarksRead has the annotations of a text whose items stand in any order.
func TestMarksRead(t *testing.T) {
	text := "fn f(a: int @=p, b: int): int @r {let x: int @x = 1; while (a) {let y: int = 1; if (b) {let z: int @=z = 1;} else {let w: int @w=1;}} let u: bool @u = a; return 1;} " +
		"var v: int @v; fn g(): bool {return true;} var o: int;"
	m, _, err := file.Parse([]byte(text))
	if err != api.OK {
		t.Fatal(err)
	}
	out := ""
	for _, a := range file.Marks(m) {
		sign := map[bool]string{true: "=", false: ""}[a.Lock] + a.Label
		out += sign + "|" + text[max(0, a.From-3):a.From] + "|"
		if a.Label != text[a.From:a.To] || a.Some != (a.Label != "") {
			t.Fatal(a)
		}
	}
	want := "=p| @=||int|r|t @|x|t @||int|=z| @=|w|t @|u|l @|v|t @||ool||int|"
	if out != want {
		t.Fatal(out)
	}
}

// TestMarksNoBound goes through blocks beyond any depth: on a small stack.
func TestMarksNoBound(t *testing.T) {
	defer debug.SetMaxStack(debug.SetMaxStack(1 << 20))
	const n = 100000
	var l []api.Stmt
	for i := n; i > 0; i-- {
		let := api.Stmt{Kind: api.StmtLet, Ann: none(i)}
		switch i % 3 {
		case 0:
			l = []api.Stmt{let, {Kind: api.StmtWhile, L: l}}
		case 1:
			l = []api.Stmt{let, {Kind: api.StmtIf, L: l}}
		case 2:
			l = []api.Stmt{let, {Kind: api.StmtIf, Else: l}}
		}
	}
	marks := file.Marks(fns(api.Fn{Body: l}))
	if len(marks) != n+1 {
		t.Fatal(len(marks))
	}
	for i, a := range marks {
		if a != none(i) {
			t.Fatal(i, a)
		}
	}
}

// A printed one is a text that a file was made to, and the annotations in the order of the text.
type printed struct {
	w     writer
	out   string
	marks []api.Ann
}

// put lays a token behind a gap, and answers where it begins.
func (p *printed) put(s string) int {
	if p.out != "" && !strings.Contains("(){};:.,</", p.out[len(p.out)-1:]) && !strings.Contains("(){};:.,</", s[:1]) {
		p.out += " "
	}
	p.out += p.w.gap()
	p.out += s
	return len(p.out) - len(s)
}

func (p *printed) puts(l ...string) {
	for _, s := range l {
		p.put(s)
	}
}

func (p *printed) name() api.Name {
	s := p.w.one([]string{"x", "net", "fn_1", "_", times(24, "i"), "imports", "Var"})
	return api.Name{Name: s, At: p.put(s)}
}

func (p *printed) kind() int {
	kind := p.w.IntN(2)
	p.put([]string{api.TypeInt: "int", api.TypeBool: "bool"}[kind])
	return kind
}

func (p *printed) mark() api.Ann {
	a := none(len(p.out))
	if sign := p.w.one([]string{"", "@", "@="}); sign != "" {
		p.put(sign)
		label := p.w.one([]string{"low", "l", "high_2", times(24, "h")})
		a = mark(p.put(label), label)
		a.Lock = sign == "@="
	}
	p.marks = append(p.marks, a)
	return a
}

func (p *printed) variable() api.Var {
	n := p.name()
	p.put(":")
	v := api.Var{Name: n.Name, At: n.At, Type: p.kind()}
	v.Ann = p.mark()
	return v
}

func (p *printed) value() api.Expr {
	s := p.w.one([]string{"1", "true", "x", "m.v", "f()", "-x", "!f(1, x)", "a + 2 * (b - c)", "declassify(x, @low)"})
	return value(p.put(s), s)
}

func (p *printed) body() []api.Stmt {
	var l []api.Stmt
	for range p.w.IntN(4) {
		s := p.w.one([]string{"do x;", "x = 1;", "m.f(1, x);", "if (a) {let b: int @low = 1;} else {let b: bool = a;}", "while (1 < 2) {let c: int @=hi = 1; do c;}", "let d: int=1;"})
		row := body(p.put(s), s)
		p.marks = append(p.marks, marksOf(row)...)
		l = append(l, row...)
	}
	return l
}

// marksOf are the annotations of statements, in the order of the text.
func marksOf(l []api.Stmt) []api.Ann {
	var out []api.Ann
	for _, s := range l {
		if s.Kind == api.StmtLet {
			out = append(out, s.Ann)
		}
		out = append(out, marksOf(s.L)...)
		out = append(out, marksOf(s.Else)...)
	}
	return out
}

func (p *printed) fn() api.Fn {
	p.put("fn")
	n := p.name()
	f := api.Fn{Name: n.Name, At: n.At}
	p.put("(")
	for i := range p.w.IntN(api.MaxParams + 1) {
		if i > 0 {
			p.put(",")
		}
		f.Params = append(f.Params, p.variable())
	}
	p.puts(")", ":")
	f.Type = p.kind()
	f.Ann = p.mark()
	if f.Row.Some = p.w.IntN(2) == 0; f.Row.Some {
		p.puts("/", "{")
		for i := range p.w.IntN(4) {
			if i > 0 {
				p.put(",")
			}
			f.Row.L = append(f.Row.L, p.name())
		}
		p.put("}")
	}
	p.put("{")
	f.Body = p.body()
	p.put("return")
	f.Ret = p.value()
	p.puts(";", "}")
	return f
}

func (p *printed) lattice(m *api.Module) {
	p.puts("lattice", "{")
	for range p.w.IntN(4) {
		n := p.name()
		pair := api.Pair{Low: n.Name, At: n.At}
		if p.w.IntN(2) == 0 {
			p.put("<")
			pair.High = p.name().Name
		}
		p.put(";")
		m.Lattice = append(m.Lattice, pair)
	}
	p.put("}")
}

// item makes an item of a file, and prints it.
func (p *printed) item(m *api.Module) {
	switch p.w.IntN(6) {
	case 0:
		p.put("import")
		m.Imports = append(m.Imports, p.name())
		p.put(";")
	case 1:
		if !m.HasLattice {
			m.HasLattice = true
			p.lattice(m)
		}
	case 2:
		if !m.HasEffects {
			m.HasEffects = true
			p.puts("effects", "{")
			for range p.w.IntN(4) {
				m.Effects = append(m.Effects, p.name())
				p.put(";")
			}
			p.put("}")
		}
	case 3:
		p.put("var")
		m.Vars = append(m.Vars, p.variable())
		p.put(";")
	default:
		m.Fns = append(m.Fns, p.fn())
	}
}

// printedFile makes a file, and prints it.
func printedFile(seed uint64, items int) (*printed, api.Module) {
	p := &printed{w: newWriter(seed)}
	var m api.Module
	for range p.w.IntN(items + 1) {
		p.item(&m)
	}
	p.out += p.w.gap()
	return p, m
}

// TestPrinted prints files, reads them again, and asks for their annotations.
func TestPrinted(t *testing.T) {
	for seed := range uint64(2000) {
		p, want := printedFile(seed, 8)
		parses(t, p.out, want, len(p.out), api.OK)
		m, _, _ := file.Parse([]byte(p.out))
		l := file.Marks(m)
		if !slices.Equal(l, p.marks) {
			t.Fatal(p.out, l, p.marks)
		}
		for i, a := range l {
			if i > 0 && l[i-1].From >= a.From {
				t.Fatal(p.out, l)
			}
			if a.From < 0 || a.From > a.To || a.To > len(p.out) || p.out[a.From:a.To] != a.Label || a.Some != (a.Label != "") {
				t.Fatal(p.out, a)
			}
		}
	}
}

// TestJoined puts files one behind the other.
func TestJoined(t *testing.T) {
	both, apart := 0, 0
	for seed := range uint64(3000) {
		p, first := printedFile(seed, 5)
		q, second := printedFile(seed+5000, 5)
		in := p.out + q.out
		if first.HasLattice && second.HasLattice || first.HasEffects && second.HasEffects {
			apart++
			m, pos, err := file.Parse([]byte(in))
			word := ""
			if len(in) >= pos+7 {
				word = in[pos : pos+7]
			}
			if err != api.ErrParse || !same(m, api.Module{}) || pos < len(p.out) ||
				!(word == "lattice" && first.HasLattice) && !(word == "effects" && first.HasEffects) {
				t.Fatal(in, m, pos, err)
			}
			continue
		}
		both++
		shift(&second, len(p.out))
		parses(t, in, api.Module{
			Imports:    append(first.Imports, second.Imports...),
			HasLattice: first.HasLattice || second.HasLattice, Lattice: append(first.Lattice, second.Lattice...),
			HasEffects: first.HasEffects || second.HasEffects, Effects: append(first.Effects, second.Effects...),
			Vars: append(first.Vars, second.Vars...),
			Fns:  append(first.Fns, second.Fns...),
		}, len(in), api.OK)
		m, _, _ := file.Parse([]byte(in))
		for i := range q.marks {
			shiftAnn(&q.marks[i], len(p.out))
		}
		if l := file.Marks(m); !slices.Equal(l, append(p.marks, q.marks...)) {
			t.Fatal(in, l)
		}
	}
	if both < 500 || apart < 500 {
		t.Fatal(both, apart)
	}
}

// over writes over all that a value has, and what lies behind its lists.
func over(v reflect.Value) {
	switch v.Kind() {
	case reflect.Struct:
		for i := range v.NumField() {
			over(v.Field(i))
		}
	case reflect.Slice:
		l := v.Slice(0, v.Cap())
		for i := range l.Len() {
			over(l.Index(i))
		}
	case reflect.String:
		v.SetString("?")
	case reflect.Bool:
		v.SetBool(!v.Bool())
	default:
		v.SetInt(-7)
	}
}

// lists are all lists of a value, those in lists too.
func lists(v reflect.Value) []reflect.Value {
	var l []reflect.Value
	switch v.Kind() {
	case reflect.Struct:
		for i := range v.NumField() {
			l = append(l, lists(v.Field(i))...)
		}
	case reflect.Slice:
		l = append(l, v)
		for i := range v.Len() {
			l = append(l, lists(v.Index(i))...)
		}
	}
	return l
}

const whole = "import a; import b; import c; lattice { a; b < c; d; } effects { a; b; c; } var x: int; var y: bool @low; var z: int; " +
	"fn f(a: int @low, b: bool, c: int): int /{a, b, c} { do a; f(a, b, c); if (a) { do a; do b; do c; } return f(a, b, c); } " +
	"fn g(a: int @low, b: bool, c: int): int @=low /{a, b, c} { do a; f(a, b, c); while (a) { let x: int = 1; do b; do c; } return f(a, b, c); }"

// TestMemory writes over answers, list by list; nothing else may change by it.
func TestMemory(t *testing.T) {
	text := []byte(whole + "fn $")
	in := text[:len(whole)]
	want, _, err := file.Parse(slices.Clone(in))
	if err != api.OK {
		t.Fatal(err)
	}
	n := len(lists(reflect.ValueOf(want)))
	for i := range n {
		m, pos, err := file.Parse(in)
		if !same(m, want) || pos != len(in) || err != api.OK {
			t.Fatal(m, pos, err)
		}
		l := lists(reflect.ValueOf(&m).Elem())[i]
		kept := reflect.MakeSlice(l.Type(), l.Len(), l.Len())
		reflect.Copy(kept, l)
		old := l.Slice3(0, l.Len(), l.Len())
		for k := l.Len(); k < l.Cap(); k++ {
			over(l.Slice(0, l.Cap()).Index(k))
		}
		for k := range old.Len() {
			old.Index(k).SetZero()
		}
		l.Set(kept)
		if !same(m, want) {
			t.Fatal(i, "two lists share memory")
		}
		over(reflect.ValueOf(&m).Elem())
		if string(text) != whole+"fn $" {
			t.Fatal("the text changed")
		}
	}
	// What was read hangs on its text no longer.
	m, _, _ := file.Parse(in)
	clear(in)
	if !same(m, want) {
		t.Fatal(m)
	}
}

// TestMarksMemory holds what Marks is handed against what that is behind it.
func TestMarksMemory(t *testing.T) {
	m, _, _ := file.Parse([]byte(whole + "var late: int @low;"))
	slices.Reverse(m.Vars)
	slices.Reverse(m.Fns)
	want, _, _ := file.Parse([]byte(whole + "var late: int @low;"))
	slices.Reverse(want.Vars)
	slices.Reverse(want.Fns)
	l := file.Marks(m)
	first := slices.Clone(l)
	for range 2 {
		over(reflect.ValueOf(&l).Elem())
		if !same(m, want) {
			t.Fatal(m)
		}
		if l = file.Marks(m); !slices.Equal(l, first) {
			t.Fatal(l, first)
		}
	}
}
