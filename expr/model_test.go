package expr_test

import (
	"strconv"
	"testing"

	"blazon/api"
	"blazon/expr"
	"blazon/lex"
)

// A pile reads an expression without a call that calls itself: what was begun and isn't ended lies on a pile.
type pile struct {
	texts  []string
	kinds  []int
	places []int
	next   int
	begun  []begun
}

// What was begun is a group, a call, a declassify, a sign, or a binary one whose right part isn't read.
type begun struct {
	what  string
	token int
	e     api.Expr
}

func newPile(in string) *pile {
	b := []byte(in)
	p := &pile{}
	for _, t := range lex.Live(lex.All(b)) {
		p.texts, p.kinds, p.places = append(p.texts, in[t.At:t.End]), append(p.kinds, t.Kind), append(p.places, t.At)
	}
	p.texts, p.kinds, p.places = append(p.texts, ""), append(p.kinds, api.TokBlank), append(p.places, len(b))
	return p
}

func (p *pile) text() string { return p.texts[p.next] }

func (p *pile) at() int { return p.places[p.next] }

func (p *pile) begin(what string, e api.Expr, token int) {
	e.At = p.places[token]
	p.begun = append(p.begun, begun{what, token, e})
}

// deep is how many brackets and signs are on the pile.
func (p *pile) deep() int {
	n := 0
	for _, b := range p.begun {
		if b.what != "binary" {
			n++
		}
	}
	return n
}

// operand goes on till a part without an end of its own is there.
func (p *pile) operand() (api.Expr, api.Errno) {
	for {
		s, token := p.text(), p.next
		e := api.Expr{At: p.at()}
		switch {
		case p.kinds[p.next] == api.TokNumber:
			n, err := strconv.ParseUint(s, 10, 64)
			if err != nil || n >= 1<<63 {
				return e, api.ErrOver
			}
			e.Kind, e.Num = api.ExprNum, int64(n)
			p.next++
			return e, api.OK
		case s == "true" || s == "false":
			e.Kind, e.Num = api.ExprBool, int64(len("false")-len(s))
			p.next++
			return e, api.OK
		case s == "(" || s == "!" || s == "-":
			if p.deep() == 32 {
				return e, api.ErrDeep
			}
			p.begin(s, api.Expr{Kind: api.ExprUnary, Name: s}, token)
			p.next++
		case s == "declassify":
			p.next++
			if p.text() != "(" {
				return e, api.ErrParse
			}
			if p.deep() == 32 {
				return e, api.ErrDeep
			}
			p.begin(s, api.Expr{Kind: api.ExprOpen}, token)
			p.next++
		case lex.Ident(s):
			p.next++
			e.Kind, e.Name = api.ExprName, s
			if p.text() == "." {
				p.next++
				if !lex.Ident(p.text()) {
					return e, api.ErrParse
				}
				e.Name += "." + p.text()
				p.next++
			}
			if p.text() != "(" {
				return e, api.OK
			}
			if p.deep() == 32 {
				return e, api.ErrDeep
			}
			e.Kind = api.ExprCall
			p.next++
			if p.text() == ")" {
				p.next++
				return e, api.OK
			}
			p.begin("call", e, token)
		default:
			return e, api.ErrParse
		}
	}
}

// top is the last one on the pile.
func (p *pile) top() begun {
	if len(p.begun) == 0 {
		return begun{}
	}
	return p.begun[len(p.begun)-1]
}

// end takes the last one from the pile, with its last part.
func (p *pile) end(e api.Expr) (api.Expr, api.Errno) {
	b := p.top()
	p.begun = p.begun[:len(p.begun)-1]
	if b.what == "(" {
		return e, api.OK
	}
	b.e.L = append(b.e.L, e)
	if b.what == "binary" {
		b.e.At = b.e.L[0].At
	}
	if tall(b.e) > 32 {
		p.next = b.token
		return e, api.ErrDeep
	}
	return b.e, api.OK
}

// read reads an expression; where it ends, or where an error is, is next.
func (p *pile) read() (api.Expr, api.Errno) {
	for {
		e, err := p.operand()
		for err == api.OK {
			level := levelOf(p.text())
			if what := p.top().what; what == "!" || what == "-" || what == "binary" && levelOf(p.top().e.Name) >= level {
				e, err = p.end(e)
				continue
			}
			if level > 0 {
				p.begin("binary", api.Expr{Kind: api.ExprBinary, Name: p.text(), L: []api.Expr{e}}, p.next)
				p.next++
				break
			}
			if len(p.begun) == 0 {
				return e, api.OK
			}
			if p.top().what == "call" && p.text() == "," {
				last := &p.begun[len(p.begun)-1]
				last.e.L = append(last.e.L, e)
				p.next++
				break
			}
			if p.top().what == "declassify" && !p.label() || p.text() != ")" {
				return e, api.ErrParse
			}
			p.next++
			e, err = p.end(e)
		}
		if err != api.OK {
			return e, err
		}
	}
}

// label reads what stands behind the expression of a declassify.
func (p *pile) label() bool {
	for _, s := range []string{",", "@"} {
		if p.text() != s {
			return false
		}
		p.next++
	}
	if !lex.Ident(p.text()) {
		return false
	}
	p.begun[len(p.begun)-1].e.Label = p.text()
	p.next++
	return true
}

// modelled holds Parse, and Expr of a new cursor, against a pile.
func modelled(t *testing.T, in string) api.Errno {
	t.Helper()
	p := newPile(in)
	want, wantErr := p.read()
	if wantErr != api.OK {
		want = api.Expr{}
	}
	c := expr.New([]byte(in))
	e, err := c.Expr()
	if !same(e, want) || err != wantErr || c.Pos() != p.at() || c.Peek() != p.text() {
		t.Fatalf("Expr of %q: %+v, %d, at %d; not %+v, %d, at %d", in, e, err, c.Pos(), want, wantErr, p.at())
	}
	pos := p.at()
	if wantErr == api.OK && pos != len(in) && p.text() != "" {
		want, wantErr = api.Expr{}, api.ErrParse
	}
	for i, kind := range p.kinds {
		if kind == api.TokBad {
			want, pos, wantErr = api.Expr{}, p.places[i], api.ErrLex
			break
		}
	}
	parses(t, in, want, pos, wantErr)
	return wantErr
}

// TestAllShort reads all texts of up to four tokens, and all of up to six of a few of them.
func TestAllShort(t *testing.T) {
	all := []string{"a ", "1 ", "true ", "declassify ", "if ", "(", ")", ",", ".", "@", "*", "-", "==", "!", "|| ", "= "}
	few := []string{"a ", "(", ")", ",", "*", "-"}
	seen := [32]int{}
	var write func(in string, from []string, left int)
	write = func(in string, from []string, left int) {
		seen[modelled(t, in)]++
		if left > 0 {
			for _, s := range from {
				write(in+s, from, left-1)
			}
		}
	}
	write("", all, 4)
	write("", few, 6)
	write("f(a,", few, 5)
	write("declassify(a", all, 4)
	if seen[api.OK] < 300 || seen[api.ErrParse] < 300 {
		t.Fatal(seen)
	}
}

// TestLongTexts reads texts that go about as deep and as high as may be, some of them broken.
func TestLongTexts(t *testing.T) {
	begins := []string{"(", "-", "!", "f(", "f(a, ", "m.f(", "declassify(", "a + ", "a*", "a&&b||", "1<", "f()==", "(a)-"}
	ends := []string{"", ",@low)", ")", "+a", "*b", ", b", "==1", "- -a", "||true", "&&(a)"}
	broken := []string{"", ")", "(", "@", "a", ".", "9223372036854775808", "$", ",", "if", "="}
	seen := [32]int{}
	for seed := range uint64(12000) {
		w := newWriter(seed)
		few := make([]string, 1+w.IntN(4))
		for i := range few {
			few[i] = w.one(begins)
		}
		in, closes := "", []string{}
		for range w.IntN(40) {
			s := w.one(few)
			in += s + w.gap()
			switch {
			case s == "declassify(":
				closes = append(closes, ",@l)")
			case s[len(s)-1] == '(' || s == "f(a, ":
				closes = append(closes, ")")
			}
		}
		in += w.one([]string{"a", "f()", "1", "a.b", "a" + times(w.IntN(33), "+a"), times(w.IntN(33), "-") + "a"})
		for i := len(closes) - 1; i >= 0; i-- {
			if w.IntN(8) == 0 {
				in += w.one(ends[3:])
			}
			in += w.gap() + closes[i]
		}
		if w.IntN(4) == 0 {
			in += w.one(ends)
		}
		if w.IntN(4) == 0 {
			at := w.IntN(len(in) + 1)
			in = in[:at] + w.one(broken) + in[at+w.IntN(min(3, len(in)-at+1)):]
		}
		seen[modelled(t, in)]++
	}
	for _, err := range []api.Errno{api.OK, api.ErrDeep, api.ErrParse, api.ErrOver, api.ErrLex} {
		if seen[err] < 50 {
			t.Fatal(seen)
		}
	}
}
