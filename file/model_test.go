package file_test

import (
	"slices"
	"strings"
	"testing"

	"blazon/api"
	"blazon/expr"
	"blazon/file"
	"blazon/lex"
	"blazon/stmt"
)

// A model reads a file by the chapter's words, each kind's as a text: what is written large is read as its own rule says; all else stands for itself.
type model struct {
	c   *expr.Cursor
	m   api.Module
	f   api.Fn
	v   api.Var
	p   api.Pair
	n   api.Name
	err api.Errno
}

func wordsOf(rule string) string {
	return map[string]string{
		"import":  "import IMPORT ;",
		"lattice": "lattice { PAIRS }",
		"pair":    "LOW HIGH ;",
		"effects": "effects { EFFECTS }",
		"effect":  "EFFECT ;",
		"var":     "var VAR GLOBAL ;",
		"fn":      "fn FN ( PARAMS ) : RESULT ROW { BODY return VALUE ; }",
	}[rule]
}

func (m *model) file() {
	for m.err == api.OK && !m.c.Done() {
		word := m.c.Peek()
		twice := word == "lattice" && m.m.HasLattice || word == "effects" && m.m.HasEffects
		if twice || !slices.Contains([]string{"import", "lattice", "effects", "var", "fn"}, word) {
			m.err = api.ErrParse
			return
		}
		m.words(wordsOf(word))
	}
}

// words reads what words say, up to the first error.
func (m *model) words(l string) {
	for _, word := range strings.Fields(l) {
		if m.err != api.OK {
			return
		}
		if word == strings.ToUpper(word) && word != strings.ToLower(word) {
			m.rule(word)
		} else if !m.c.Take(word) {
			m.err = api.ErrParse
		}
	}
}

func (m *model) rule(word string) {
	switch word {
	case "IMPORT":
		m.name()
		m.m.Imports = append(m.m.Imports, m.n)
	case "PAIRS":
		m.m.HasLattice = true
		m.all("pair")
	case "LOW":
		m.name()
		m.p = api.Pair{Low: m.n.Name, At: m.n.At}
	case "HIGH":
		if m.c.Peek() == "<" {
			m.words("<")
			m.name()
			m.p.High = m.n.Name
		}
		m.m.Lattice = append(m.m.Lattice, m.p)
	case "EFFECTS":
		m.m.HasEffects = true
		m.all("effect")
	case "EFFECT":
		m.name()
		m.m.Effects = append(m.m.Effects, m.n)
	case "VAR":
		m.name()
		m.v = api.Var{Name: m.n.Name, At: m.n.At}
		m.words(":")
		m.typed(&m.v.Type, &m.v.Ann)
	case "GLOBAL":
		m.m.Vars = append(m.m.Vars, m.v)
	case "FN":
		m.name()
		m.f = api.Fn{Name: m.n.Name, At: m.n.At}
	default:
		m.inner(word)
	}
}

// inner reads what stands in a function alone.
func (m *model) inner(word string) {
	switch word {
	case "PARAMS":
		for n := 0; m.err == api.OK && (n > 0 && m.c.Peek() == "," || n == 0 && m.c.Peek() != ")"); n++ {
			if n > 0 {
				m.words(",")
			}
			if n == 8 {
				m.err = api.ErrLong
				return
			}
			m.words("VAR")
			m.f.Params = append(m.f.Params, m.v)
		}
	case "RESULT":
		m.typed(&m.f.Type, &m.f.Ann)
	case "ROW":
		m.f.Row.Some = m.c.Take("/")
		if m.f.Row.Some {
			m.words("{")
			for n := 0; m.err == api.OK && (n > 0 && m.c.Take(",") || n == 0 && m.c.Peek() != "}"); n++ {
				m.name()
				m.f.Row.L = append(m.f.Row.L, m.n)
			}
			m.words("}")
		}
	case "BODY":
		m.f.Body, m.err = stmt.Row(m.c, 1)
	case "VALUE":
		m.f.Ret, m.err = m.c.Expr()
		m.m.Fns = append(m.m.Fns, m.f)
	}
}

func (m *model) all(rule string) {
	for m.err == api.OK && m.c.Peek() != "}" {
		m.words(wordsOf(rule))
	}
}

func (m *model) name() {
	at := m.c.Pos()
	s, ok := m.c.Ident()
	m.n = api.Name{Name: s, At: at}
	if !ok && m.err == api.OK {
		m.err = api.ErrParse
	}
}

func (m *model) typed(kind *int, a *api.Ann) {
	if m.err == api.OK {
		*kind, m.err = stmt.Type(m.c)
	}
	if m.err == api.OK {
		*a, m.err = stmt.Mark(m.c)
	}
}

// modelled holds Parse against a model.
func modelled(t *testing.T, in string) api.Errno {
	t.Helper()
	m := model{c: expr.New([]byte(in))}
	m.file()
	want, pos, err := m.m, m.c.Pos(), m.err
	for _, tok := range slices.Backward(lex.All([]byte(in))) {
		if tok.Kind == api.TokBad {
			pos, err = tok.At, api.ErrLex
		}
	}
	if len(in) > 16384 {
		pos, err = 16384, api.ErrLong
	}
	if err != api.OK {
		want = api.Module{}
	}
	parses(t, in, want, pos, err)
	return err
}

// TestAllShort reads all texts of some few tokens, and all that go on from a beginning.
func TestAllShort(t *testing.T) {
	all := []string{"a ", "1 ", "int ", "bool ", "@", "@=", "=", "<", "/", ",", ";", ":", "(", ")", "{", "}", "import ", "lattice ", "effects ", "var ", "fn ", "return ", "let ", "f()", "$"}
	dense := []string{"import a;", "lattice{", "effects{", "a;", "a<b;", "}", "var a:int;", "fn f():int{return 1;}"}
	params := []string{"a:int", "a ", ",", ")", "@l", "):int{return 1;}"}
	row := []string{"/", "{", "}", "a", ",", "@l ", "return ", ";"}
	seen := [32]int{}
	var write func(in string, from []string, left int)
	write = func(in string, from []string, left int) {
		seen[modelled(t, in)]++
		if left > 0 {
			for _, s := range from {
				write(in+s, from, left-1)
			}
		}
	}
	write("", all, 3)
	write("", dense, 5)
	write("lattice {", all, 3)
	write("effects {", all, 2)
	write("var a", all, 3)
	write("fn f", all, 2)
	write("fn f(", params, 5)
	write("fn f("+times(7, "a:int,")+"b:int", params, 5)
	write("fn f():int", row, 5)
	write("fn f():int{", all, 3)
	write("fn f():int{return 1", all, 3)
	if seen[api.OK] < 300 || seen[api.ErrParse] < 300 || seen[api.ErrLex] < 300 || seen[api.ErrLong] < 300 {
		t.Fatal(seen)
	}
}

// TestBroken takes tokens out of printed files, lays others in, and changes them.
func TestBroken(t *testing.T) {
	other := []string{"", "", "a", "1", "int", "@", "@=", "=", "<", "/", ",", ";", ":", "(", ")", "{", "}", "import", "lattice", "effects", "var", "fn",
		"lattice { }", "effects { }", "return", "if (a) {", "9223372036854775808", "$", times(33, "("), times(32, "if (a) {"), times(9, "a: int, ")}
	seen := [32]int{}
	for seed := range uint64(8000) {
		p, _ := printedFile(seed, 4)
		l := lex.All([]byte(p.out))
		for range 1 + p.w.IntN(7) {
			if len(l) > 0 {
				tok := l[p.w.IntN(len(l))]
				seen[modelled(t, p.out[:tok.At]+" "+p.w.one(other)+" "+p.out[tok.End-p.w.IntN(2)*(tok.End-tok.At):])]++
			}
		}
	}
	for _, err := range []api.Errno{api.OK, api.ErrParse, api.ErrLex, api.ErrOver, api.ErrDeep, api.ErrLong} {
		if seen[err] < 10 {
			t.Fatal(seen)
		}
	}
}

// TestAnyBytes asks of any bytes for a right answer, or an error at a place in them.
func TestAnyBytes(t *testing.T) {
	words := []string{"a", "b1", ".", ",", "(", ")", "{", "}", "=", ";", ":", ": int", "@l", "@=", "<", "/", "/{}", "{ return 1;}", "import a;", "lattice {", "effects {", "var a: int", "fn f(", "fn f(): int", "a: int", "f();", " ", "#\n"}
	for seed := range uint64(20000) {
		w := newWriter(seed)
		in := ""
		for range w.IntN(14) {
			in += w.one(words)
			if w.IntN(100) == 0 {
				in += string([]byte{byte(w.IntN(256))})
			}
		}
		b := append([]byte(in), "import a;$"...)
		m, pos, err := file.Parse(b[:len(in)])
		if string(b) != in+"import a;$" || pos < 0 || pos > len(in) || err == api.OK && pos != len(in) || err != api.OK && !same(m, api.Module{}) {
			t.Fatalf("%q: %+v, %d, %d", in, m, pos, err)
		}
		modelled(t, in)
	}
}
