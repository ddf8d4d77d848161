package stmt_test

import (
	"slices"
	"strings"
	"testing"

	"blazon/api"
	"blazon/expr"
	"blazon/lex"
	"blazon/stmt"
)

// A model reads statements by the chapter's words, each kind's as a text: NAME, TYPE, MARK, EXPR, BLOCK, and ELSE for what may lack; all else stands for itself.
type model struct {
	c   *expr.Cursor
	err api.Errno
}

func wordsOf(kind int) string {
	return []string{
		api.StmtLet:   "let NAME : TYPE MARK = EXPR ;",
		api.StmtSet:   "= EXPR ;",
		api.StmtIf:    "if ( EXPR ) BLOCK ELSE",
		api.StmtWhile: "while ( EXPR ) BLOCK",
		api.StmtDo:    "do NAME ;",
		api.StmtCall:  ";",
	}[kind]
}

func (m *model) stmt(deep int) api.Stmt {
	s := api.Stmt{At: m.c.Pos()}
	for _, s.Kind = range []int{api.StmtLet, api.StmtIf, api.StmtWhile, api.StmtDo} {
		if strings.Fields(wordsOf(s.Kind))[0] == m.c.Peek() {
			m.words(wordsOf(s.Kind), &s, deep)
			return s
		}
	}
	var e api.Expr
	if e, m.err = m.c.Expr(); m.err != api.OK {
		return api.Stmt{}
	}
	switch e.Kind {
	case api.ExprName:
		s.Kind, s.Name = api.StmtSet, e.Name
	case api.ExprCall:
		s.Kind, s.E = api.StmtCall, e
	default:
		m.err = api.ErrParse
		return s
	}
	m.words(wordsOf(s.Kind), &s, deep)
	return s
}

// words reads what words say, up to the first error.
func (m *model) words(l string, s *api.Stmt, deep int) {
	for _, word := range strings.Fields(l) {
		ok := true
		switch word {
		case "NAME":
			s.Name, ok = m.c.Ident()
		case "TYPE":
			s.Type = slices.Index([]string{"int", "bool"}, m.c.Peek())
			ok = s.Type >= 0 && m.c.Take(m.c.Peek())
		case "MARK":
			s.Ann, ok = m.mark()
		case "EXPR":
			s.E, m.err = m.c.Expr()
		case "BLOCK":
			s.L, ok = m.block(deep)
		case "ELSE":
			if m.c.Take("else") {
				s.Else, ok = m.block(deep)
			}
		default:
			ok = m.c.Take(word)
		}
		if m.err == api.OK && !ok {
			m.err = api.ErrParse
		}
		if m.err != api.OK {
			return
		}
	}
}

func (m *model) mark() (api.Ann, bool) {
	sign := m.c.Peek()
	if !strings.HasPrefix(sign, "@") {
		return api.Ann{From: m.c.End(), To: m.c.End()}, true
	}
	m.c.Take(sign)
	from := m.c.Pos()
	label, ok := m.c.Ident()
	return api.Ann{Some: true, Lock: strings.HasSuffix(sign, "="), Label: label, From: from, To: m.c.End()}, ok
}

func (m *model) block(deep int) ([]api.Stmt, bool) {
	if m.c.Peek() == "{" && deep >= 32 {
		m.err = api.ErrDeep
	}
	if m.err != api.OK || !m.c.Take("{") {
		return nil, false
	}
	l := m.row(deep + 1)
	return l, m.err == api.OK && m.c.Take("}")
}

func (m *model) row(deep int) []api.Stmt {
	var l []api.Stmt
	for m.err == api.OK && !slices.Contains([]string{"}", "return", ""}, m.c.Peek()) {
		l = append(l, m.stmt(deep))
	}
	return l
}

// modelled holds Parse, Row and Stmt against a model.
func modelled(t *testing.T, in string, deep int) api.Errno {
	t.Helper()
	c, m := expr.New([]byte(in)), model{c: expr.New([]byte(in))}
	s, err := stmt.Stmt(c, deep)
	want := m.stmt(deep)
	if m.err != api.OK {
		want = api.Stmt{}
	}
	if !same(s, want) || err != m.err || c.Pos() != m.c.Pos() || c.End() != m.c.End() {
		t.Fatalf("Stmt of %q: %+v, %d, at %d; not %+v, %d, at %d", in, s, err, c.Pos(), want, m.err, m.c.Pos())
	}
	c, m = expr.New([]byte(in)), model{c: expr.New([]byte(in))}
	l, err := stmt.Row(c, deep)
	all := m.row(deep)
	if m.err != api.OK {
		all = nil
	}
	if !sameRow(l, all) || err != m.err || c.Pos() != m.c.Pos() || c.End() != m.c.End() {
		t.Fatalf("Row of %q: %+v, %d, at %d; not %+v, %d, at %d", in, l, err, c.Pos(), all, m.err, m.c.Pos())
	}
	m = model{c: expr.New([]byte(in))}
	all, pos, wantErr := m.row(0), m.c.Pos(), m.err
	if wantErr == api.OK && m.c.Peek() != "" {
		wantErr = api.ErrParse
	}
	for _, tok := range slices.Backward(lex.All([]byte(in))) {
		if tok.Kind == api.TokBad {
			pos, wantErr = tok.At, api.ErrLex
		}
	}
	if wantErr != api.OK {
		all = nil
	}
	parses(t, in, all, pos, wantErr)
	return wantErr
}

// TestAllShort reads all texts of some few tokens, and all that go on from a beginning.
func TestAllShort(t *testing.T) {
	all := []string{"a ", "1 ", "int ", "@", "@=", "=", ";", ":", "(", ")", "{", "}", "let ", "if ", "else ", "while ", "do ", "return ", ".", "f()", "$"}
	few := []string{"a ", "=", ";", "{", "}", "if(a)", "else "}
	dense := []string{"do a;", "f();", "if(a){", "while(a){", "}", "}else{", "return "}
	seen := [32]int{}
	var write func(in string, from []string, left int)
	write = func(in string, from []string, left int) {
		seen[modelled(t, in, 31)]++
		if left > 0 {
			for _, s := range from {
				write(in+s, from, left-1)
			}
		}
	}
	write("", all, 3)
	write("", few, 4)
	write("", dense, 5)
	write("let a: int", all, 3)
	write("if(a){", few, 4)
	write("do", all, 2)
	write("while(a)", all, 2)
	if seen[api.OK] < 300 || seen[api.ErrParse] < 300 || seen[api.ErrLex] < 300 {
		t.Fatal(seen)
	}
}

// TestBroken takes tokens out of printed statements, lays others in, and changes them.
func TestBroken(t *testing.T) {
	other := []string{"", "", "a", "1", "int", "@", "@=", "=", "==", ";", ":", "(", ")", "{", "}", "let", "if", "else", "while", "do", "return", ".", "9223372036854775808", "$", times(33, "("), "if (a) {"}
	seen := [32]int{}
	for seed := range uint64(3000) {
		p := &printed{w: newWriter(seed)}
		p.row(1 + p.w.IntN(4))
		l := lex.All([]byte(p.out))
		for range 1 + p.w.IntN(2) {
			if len(l) > 0 {
				tok := l[p.w.IntN(len(l))]
				in := p.out[:tok.At] + " " + p.w.one(other) + " " + p.out[tok.End-p.w.IntN(2)*(tok.End-tok.At):]
				seen[modelled(t, in, 29+p.w.IntN(4))]++
			}
		}
	}
	for _, err := range []api.Errno{api.OK, api.ErrParse, api.ErrLex, api.ErrOver, api.ErrDeep} {
		if seen[err] < 50 {
			t.Fatal(seen)
		}
	}
}

// TestAnyBytes asks of any bytes for a right answer, or an error at a place in them.
func TestAnyBytes(t *testing.T) {
	words := []string{"a", "a", "b1", ".", ",", "(", ")", "(a)", "{", "}", "=", "= 1;", ";", ":", ": int", "@l", "@=", "+", "if ", "else ", "while ", "let ", "do a;", "return ", "f();", " ", "#\n"}
	for seed := range uint64(20000) {
		w := newWriter(seed)
		in := ""
		for range w.IntN(14) {
			in += w.one(words)
			if w.IntN(100) == 0 {
				in += string([]byte{byte(w.IntN(256))})
			}
		}
		b := append([]byte(in), "do a;$"...)
		l, pos, err := stmt.Parse(b[:len(in)])
		if string(b) != in+"do a;$" || pos < 0 || pos > len(in) || err == api.OK && pos != len(in) || err != api.OK && l != nil {
			t.Fatalf("%q: %+v, %d, %d", in, l, pos, err)
		}
		modelled(t, in, 30+w.IntN(4))
	}
}
