package show_test

import (
	"math"
	"math/rand/v2"
	"slices"
	"strconv"
	"strings"
	"testing"

	"blazon/api"
	"blazon/lex"
	"blazon/show"
)

// The signs of two parts, with their levels as layer 8 numbers them.
const signLevels = "*5 +4 -4 ==3 <3 &&2 ||1"

// A model tells things by the chapter's words, each kind's as a text: what is written large is told in its place; all else stands for itself. A loose one puts brackets also where none are needed.
type model struct{ loose *rand.Rand }

func newModel() model { return model{} }

func (m model) level(sign string) int {
	for _, s := range strings.Fields(signLevels) {
		if s[:len(s)-1] == sign {
			return int(s[len(s)-1] - '0')
		}
	}
	return 0
}

// form puts texts in the place of words.
func (m model) form(form string, l ...string) string { return strings.NewReplacer(l...).Replace(form) }

func (m model) typed(kind int, a api.Ann) string {
	form := "bool"
	if kind == 0 {
		form = "int"
	}
	if a.Some && a.Lock {
		return form + " @=" + a.Label
	}
	if a.Some {
		return form + " @" + a.Label
	}
	return form
}

func (m model) row(w api.Row) string {
	if !w.Some {
		return ""
	}
	var l []string
	for _, n := range w.L {
		l = append(l, n.Name)
	}
	return " /{" + strings.Join(l, ", ") + "}"
}

func (m model) expr(e api.Expr) string {
	s := m.plain(e)
	for m.loose != nil && m.loose.IntN(8) == 0 {
		s = "(" + s + ")"
	}
	return s
}

func (m model) plain(e api.Expr) string {
	switch e.Kind {
	case api.ExprNum:
		return strconv.Itoa(int(e.Num))
	case api.ExprBool:
		if e.Num == 0 {
			return "false"
		}
		return "true"
	case api.ExprName:
		return e.Name
	case api.ExprCall:
		var l []string
		for _, x := range e.L {
			l = append(l, m.expr(x))
		}
		return e.Name + "(" + strings.Join(l, ", ") + ")"
	}
	l := append(slices.Clone(e.L), api.Expr{}, api.Expr{})
	form := map[int]string{api.ExprUnary: "SIGNFIRST", api.ExprBinary: "FIRST SIGN SECOND", api.ExprOpen: "declassify(FIRST, @LABEL)"}[e.Kind]
	return m.form(form, "SIGN", e.Name, "LABEL", e.Label, "FIRST", m.part(e, l[0], false), "SECOND", m.part(e, l[1], true))
}

func (m model) part(of, part api.Expr, second bool) string {
	s := m.expr(part)
	signed := of.Kind == api.ExprUnary
	below := of.Kind == api.ExprBinary && m.level(part.Name) < m.level(of.Name)
	same := of.Kind == api.ExprBinary && m.level(part.Name) == m.level(of.Name)
	if part.Kind == api.ExprBinary && (signed || below || same && second) {
		return "(" + s + ")"
	}
	return s
}

// stmts has the lines of statements, without the tabs of the outer blocks.
func (m model) stmts(l []api.Stmt) []string {
	var out []string
	for _, s := range l {
		form := map[int]string{
			api.StmtLet: "let NAME: TYPE = EXPR;", api.StmtSet: "NAME = EXPR;", api.StmtDo: "do NAME;", api.StmtCall: "EXPR;",
			api.StmtIf: "if (EXPR) {", api.StmtWhile: "while (EXPR) {",
		}[s.Kind]
		if form == "" {
			continue
		}
		out = append(out, m.form(form, "NAME", s.Name, "TYPE", m.typed(s.Type, s.Ann), "EXPR", m.expr(s.E)))
		if s.Kind == api.StmtIf || s.Kind == api.StmtWhile {
			out = append(out, m.further(m.stmts(s.L))...)
			if s.Kind == api.StmtIf && len(s.Else) > 0 {
				out = append(append(out, "} else {"), m.further(m.stmts(s.Else))...)
			}
			out = append(out, "}")
		}
	}
	return out
}

func (m model) further(l []string) []string {
	var out []string
	for _, s := range l {
		out = append(out, "\t"+s)
	}
	return out
}

// text is lines, each with so many tabs.
func (m model) text(l []string, deep int) string {
	out := ""
	for _, s := range l {
		out += times(deep, "\t") + s + "\n"
	}
	return out
}

func (m model) fn(f api.Fn) []string {
	var params []string
	for _, p := range f.Params {
		params = append(params, p.Name+": "+m.typed(p.Type, p.Ann))
	}
	first := m.form("fn NAME(PARAMS): TYPEROW {", "NAME", f.Name, "PARAMS", strings.Join(params, ", "), "TYPE", m.typed(f.Type, f.Ann), "ROW", m.row(f.Row))
	l := append([]string{first}, m.further(m.stmts(f.Body))...)
	return append(l, "\treturn "+m.expr(f.Ret)+";", "}")
}

// items has the items of a file, by their kinds.
func (m model) items(f api.Module) [][]string {
	l := make([][]string, 5)
	add := func(kind int, lines ...string) { l[kind] = append(l[kind], m.text(lines, 0)) }
	for _, n := range f.Imports {
		add(0, "import "+n.Name+";")
	}
	if f.HasLattice {
		lines := []string{"lattice {"}
		for _, p := range f.Lattice {
			lines = append(lines, m.form(map[bool]string{true: "\tLOW;", false: "\tLOW < HIGH;"}[len(p.High) == 0], "LOW", p.Low, "HIGH", p.High))
		}
		add(1, append(lines, "}")...)
	}
	if f.HasEffects {
		lines := []string{"effects {"}
		for _, n := range f.Effects {
			lines = append(lines, "\t"+n.Name+";")
		}
		add(2, append(lines, "}")...)
	}
	for _, v := range f.Vars {
		add(3, "var "+v.Name+": "+m.typed(v.Type, v.Ann)+";")
	}
	for _, f := range f.Fns {
		add(4, m.fn(f)...)
	}
	return l
}

func (m model) module(f api.Module) string { return strings.Join(slices.Concat(m.items(f)...), "") }

// A maker makes things, the same ones in each run: any, or only such as are read of texts.
type maker struct {
	*rand.Rand
	any bool
}

func newMaker(seed uint64, any bool) maker { return maker{rand.New(rand.NewPCG(seed, 1)), any} }

func (k maker) one(l ...string) string { return l[k.IntN(len(l))] }

// odd is something that isn't read of a text, from time to time.
func (k maker) odd() bool { return k.any && k.IntN(6) == 0 }

func (k maker) at() int {
	if k.any {
		return k.IntN(9) - 4
	}
	return 0
}

func (k maker) ident() string {
	if k.odd() {
		return k.one("", "if", "a b", "\n", "\xff\x00", "(", "NAME", "m.v", times(25, "x"))
	}
	return k.one("a", "b", "x", "net", "fn_1", "_", times(24, "i"), "imports", "Var")
}

func (k maker) name() string {
	if k.IntN(3) == 0 {
		return k.ident() + "." + k.ident()
	}
	return k.ident()
}

func (k maker) names() []api.Name {
	var l []api.Name
	for range k.IntN(4) {
		l = append(l, api.Name{Name: k.ident(), At: k.at()})
	}
	return l
}

func (k maker) kind() int {
	if k.odd() {
		return []int{-1, 2, 99, math.MinInt, math.MaxInt}[k.IntN(5)]
	}
	return k.IntN(2)
}

func (k maker) ann() api.Ann {
	a := api.Ann{Some: k.IntN(2) == 0, From: k.at(), To: k.at()}
	if a.Some || k.any {
		a.Lock, a.Label = k.IntN(2) == 0, k.ident()
	}
	return a
}

func (k maker) row() api.Row {
	w := api.Row{Some: k.IntN(2) == 0}
	if w.Some || k.any {
		w.L = k.names()
	}
	return w
}

// parts are so many expressions, or another number of them.
func (k maker) parts(n, high int) []api.Expr {
	if k.odd() {
		n = k.IntN(4)
	}
	var l []api.Expr
	for range n {
		l = append(l, k.expr(high-1))
	}
	return l
}

// expr makes an expression of a bounded height.
func (k maker) expr(high int) api.Expr {
	e := api.Expr{Kind: k.IntN(7), At: k.at()}
	if high <= 1 || k.IntN(8) == 0 {
		e.Kind = k.IntN(3)
	}
	switch e.Kind {
	case api.ExprNum:
		e.Num = []int64{0, 1, 10, 9223372036854775807}[k.IntN(4)]
	case api.ExprBool:
		e.Num = int64(k.IntN(2))
	case api.ExprName:
		e.Name = k.name()
	case api.ExprCall:
		e.Name, e.L = k.name(), k.parts(k.IntN(4), high)
	case api.ExprUnary:
		e.Name, e.L = k.one("!", "-"), k.parts(1, high)
	case api.ExprBinary:
		e.Name, e.L = k.one("*", "+", "-", "==", "<", "&&", "||"), k.parts(2, high)
	case api.ExprOpen:
		e.Label, e.L = k.ident(), k.parts(1, high)
	}
	if k.odd() {
		e.Num, e.Name, e.Label = []int64{-1, 2, math.MinInt64, math.MaxInt64}[k.IntN(4)], k.one("", "?", "/", "!", "=", k.ident()), k.ident()
	}
	if k.odd() {
		e.Kind = k.IntN(10) - 1
	}
	return e
}

// stmts makes statements whose blocks have a bounded depth.
func (k maker) stmts(deep int) []api.Stmt {
	var l []api.Stmt
	for range k.IntN(4) {
		l = append(l, k.stmt(deep))
	}
	return l
}

func (k maker) stmt(deep int) api.Stmt {
	s := api.Stmt{Kind: k.IntN(6), At: k.at(), E: k.expr(5)}
	if k.odd() {
		s = api.Stmt{Kind: k.IntN(9) - 1, Name: k.ident(), Type: k.kind(), Ann: k.ann(), E: k.expr(3)}
		if deep > 0 {
			s.L, s.Else = k.stmts(deep-1), k.stmts(deep-1)
		}
		return s
	}
	if deep == 0 && (s.Kind == api.StmtIf || s.Kind == api.StmtWhile) {
		s.Kind = api.StmtDo
	}
	switch s.Kind {
	case api.StmtLet:
		s.Name, s.Type, s.Ann = k.ident(), k.kind(), k.ann()
	case api.StmtSet:
		s.Name = k.name()
	case api.StmtIf:
		s.L, s.Else = k.stmts(deep-1), k.stmts(deep-1)
	case api.StmtWhile:
		s.L = k.stmts(deep - 1)
	case api.StmtDo:
		s.Name, s.E = k.ident(), api.Expr{}
	case api.StmtCall:
		s.E = call(k.name(), k.parts(k.IntN(4), 4)...)
	}
	return s
}

func (k maker) vars(most int) []api.Var {
	var l []api.Var
	for range k.IntN(most + 1) {
		l = append(l, api.Var{Name: k.ident(), At: k.at(), Type: k.kind(), Ann: k.ann()})
	}
	return l
}

func (k maker) module() api.Module {
	m := api.Module{Imports: k.names(), HasLattice: k.IntN(2) == 0, HasEffects: k.IntN(2) == 0, Vars: k.vars(3)}
	if m.HasLattice || k.any {
		for range k.IntN(4) {
			p := api.Pair{Low: k.ident(), At: k.at()}
			if k.IntN(2) == 0 {
				p.High = k.ident()
			}
			m.Lattice = append(m.Lattice, p)
		}
	}
	if m.HasEffects || k.any {
		m.Effects = k.names()
	}
	for range k.IntN(4) {
		m.Fns = append(m.Fns, api.Fn{
			Name: k.ident(), At: k.at(), Params: k.vars(8), Type: k.kind(), Ann: k.ann(), Row: k.row(), Body: k.stmts(3), Ret: k.expr(6),
		})
	}
	return m
}

// TestAny holds all calls, of things of any parts, against the model.
func TestAny(t *testing.T) {
	m := newModel()
	told := func(what any, s, want string) {
		t.Helper()
		if s != want {
			t.Fatalf("%+v: %q, not %q", what, s, want)
		}
	}
	for seed := range uint64(12000) {
		k := newMaker(seed, seed%3 > 0)
		e, l, f, deep := k.expr(7), k.stmts(4), k.module(), k.IntN(50)-8
		told(e, show.Expr(e), m.expr(e))
		told(l, show.Stmts(l, deep), m.text(m.stmts(l), min(32, max(0, deep))))
		told(f, show.Module(f), m.module(f))
		for _, f := range f.Fns {
			told(f, show.Type(f.Type)+show.Ann(f.Ann), m.typed(f.Type, f.Ann))
			told(f, show.Row(f.Row), m.row(f.Row))
		}
		// The same call has the same answer.
		told(f, show.Module(f), show.Module(f))
	}
}

// loosen writes the tokens of a text with other things between.
func (k maker) loosen(in string) string {
	out := ""
	for _, t := range lex.Live(lex.All([]byte(in))) {
		gap := k.one("", "", " ", "\n", "\t \r", " #let $ {\n", "#\n")
		if gap == "" && t.At > 0 && strings.ContainsAny(in[t.At-1:t.At], " \t\n") {
			gap = " "
		}
		out += gap + in[t.At:t.End]
	}
	return out + k.one("", " ", "#", "\n")
}
