package expr_test

import (
	"math/rand/v2"
	"reflect"
	"slices"
	"strconv"
	"strings"
	"testing"

	"blazon/api"
	"blazon/expr"
	"blazon/lex"
)

// A writer writes texts, the same ones in each run.
type writer struct{ *rand.Rand }

func newWriter(seed uint64) writer { return writer{rand.New(rand.NewPCG(seed, 0))} }

func (w writer) one(l []string) string { return l[w.IntN(len(l))] }

// gap is what may stand between two tokens.
func (w writer) gap() string {
	return w.one([]string{"", "", " ", "\n", "\t \r", " #a $ (\n", "#\n"})
}

// The signs that put two parts together, with their levels as the chapter numbers them.
const signLevels = "*5 +4 -4 ==3 <3 &&2 ||1"

func levelOf(sign string) int {
	for _, s := range strings.Fields(signLevels) {
		if s[:len(s)-1] == sign {
			return int(s[len(s)-1] - '0')
		}
	}
	return 0
}

func num(at int, n int64) api.Expr { return api.Expr{Kind: api.ExprNum, At: at, Num: n} }

func truth(at int, n int64) api.Expr { return api.Expr{Kind: api.ExprBool, At: at, Num: n} }

func name(at int, s string) api.Expr { return api.Expr{Kind: api.ExprName, At: at, Name: s} }

func call(at int, s string, l ...api.Expr) api.Expr {
	return api.Expr{Kind: api.ExprCall, At: at, Name: s, L: l}
}

func unary(at int, sign string, e api.Expr) api.Expr {
	return api.Expr{Kind: api.ExprUnary, At: at, Name: sign, L: []api.Expr{e}}
}

func binary(at int, sign string, left, right api.Expr) api.Expr {
	return api.Expr{Kind: api.ExprBinary, At: at, Name: sign, L: []api.Expr{left, right}}
}

func open(at int, label string, e api.Expr) api.Expr {
	return api.Expr{Kind: api.ExprOpen, At: at, Label: label, L: []api.Expr{e}}
}

// same tells whether two expressions are the same, down to their last parts.
func same(a, b api.Expr) bool {
	if !slices.EqualFunc(a.L, b.L, same) {
		return false
	}
	a.L, b.L = nil, nil
	return reflect.DeepEqual(a, b)
}

// tall is a height by the chapter's words.
func tall(e api.Expr) int {
	most := 0
	if e.Kind != api.ExprNum && e.Kind != api.ExprBool && e.Kind != api.ExprName {
		for _, x := range e.L {
			most = max(most, tall(x))
		}
	}
	return most + 1
}

// parses asks for an expression, and for nothing at all where an error is wanted.
func parses(t *testing.T, in string, want api.Expr, pos int, wantErr api.Errno) {
	t.Helper()
	e, at, err := expr.Parse([]byte(in))
	if !same(e, want) || at != pos || err != wantErr {
		t.Fatalf("Parse(%q): %+v, %d, %d; not %+v, %d, %d", in, e, at, err, want, pos, wantErr)
	}
}

func TestParse(t *testing.T) {
	long := strings.Repeat("x", api.MaxIdent)
	a, b := name(0, "a"), name(2, "b")
	for in, want := range map[string]api.Expr{
		"0":                             num(0, 0),
		"9223372036854775807":           num(0, 1<<63-1),
		strings.Repeat("0", 99) + "7":   num(0, 7),
		"true":                          truth(0, 1),
		" false ":                       truth(1, 0),
		"trues":                         name(0, "trues"),
		"_":                             name(0, "_"),
		long:                            name(0, long),
		long + "." + long:               name(0, long+"."+long),
		"a . #why\n b":                  name(0, "a.b"),
		"f()":                           call(0, "f"),
		"m.f ( ) ":                      call(0, "m.f"),
		"f(1)":                          call(0, "f", num(2, 1)),
		"f(g(),(1),-x)":                 call(0, "f", call(2, "g"), num(7, 1), unary(10, "-", name(11, "x"))),
		"f(a||b,c)":                     call(0, "f", binary(2, "||", name(2, "a"), name(5, "b")), name(7, "c")),
		"a # $\n":                       name(0, "a"),
		"(a)":                           name(1, "a"),
		"((a))+b":                       binary(2, "+", name(2, "a"), name(6, "b")),
		"a*(b+c)":                       binary(0, "*", a, binary(3, "+", name(3, "b"), name(5, "c"))),
		"declassify(a,@low)":            open(0, "low", name(11, "a")),
		" declassify ( 1 + 2 , @ low )": open(1, "low", binary(14, "+", num(14, 1), num(18, 2))),
		"!true":                         unary(0, "!", truth(1, 1)),
		"-!-1":                          unary(0, "-", unary(1, "!", unary(2, "-", num(3, 1)))),
		"-a*b":                          binary(0, "*", unary(0, "-", name(1, "a")), name(3, "b")),
		"a-b":                           binary(0, "-", a, b),
		"a--b":                          binary(0, "-", a, unary(2, "-", name(3, "b"))),
		"1+2*x":                         binary(0, "+", num(0, 1), binary(2, "*", num(2, 2), name(4, "x"))),
		"1*2+x":                         binary(0, "+", binary(0, "*", num(0, 1), num(2, 2)), name(4, "x")),
		"a-b-c":                         binary(0, "-", binary(0, "-", a, b), name(4, "c")),
		"a<b==c":                        binary(0, "==", binary(0, "<", a, b), name(5, "c")),
		"a*b<c+1":                       binary(0, "<", binary(0, "*", a, b), binary(4, "+", name(4, "c"), num(6, 1))),
	} {
		parses(t, in, want, len(in), api.OK)
	}
}

func TestParseErrors(t *testing.T) {
	long := strings.Repeat("x", api.MaxIdent+1)
	for in, want := range map[string]struct {
		pos int
		err api.Errno
	}{
		"":                          {0, api.ErrParse},
		" # nothing":                {10, api.ErrParse},
		"a b":                       {2, api.ErrParse},
		"a 1":                       {2, api.ErrParse},
		"1a":                        {1, api.ErrParse},
		"1.a":                       {1, api.ErrParse},
		"1()":                       {1, api.ErrParse},
		"true()":                    {4, api.ErrParse},
		"true.a":                    {4, api.ErrParse},
		"f()()":                     {3, api.ErrParse},
		"(f)()":                     {3, api.ErrParse},
		"f().a":                     {3, api.ErrParse},
		"a+":                        {2, api.ErrParse},
		"a+ ":                       {3, api.ErrParse},
		"+a":                        {0, api.ErrParse},
		"a+*b":                      {2, api.ErrParse},
		"a=b":                       {1, api.ErrParse},
		"a<!":                       {3, api.ErrParse},
		"a/b":                       {1, api.ErrParse},
		"-":                         {1, api.ErrParse},
		"a!b":                       {1, api.ErrParse},
		"if":                        {0, api.ErrParse},
		"int":                       {0, api.ErrParse},
		"a.if":                      {2, api.ErrParse},
		"a.true":                    {2, api.ErrParse},
		"a.1":                       {2, api.ErrParse},
		"a.":                        {2, api.ErrParse},
		"a..b":                      {2, api.ErrParse},
		"a.b.c":                     {3, api.ErrParse},
		".a":                        {0, api.ErrParse},
		long:                        {0, api.ErrParse},
		"a." + long:                 {2, api.ErrParse},
		"()":                        {1, api.ErrParse},
		"(a":                        {2, api.ErrParse},
		"(a,b)":                     {2, api.ErrParse},
		"a)":                        {1, api.ErrParse},
		"f(":                        {2, api.ErrParse},
		"f(a":                       {3, api.ErrParse},
		"f(a,)":                     {4, api.ErrParse},
		"f(,a)":                     {2, api.ErrParse},
		"f(a b)":                    {4, api.ErrParse},
		"f(a;b)":                    {3, api.ErrParse},
		"declassify":                {10, api.ErrParse},
		"declassify a":              {11, api.ErrParse},
		"declassify()":              {11, api.ErrParse},
		"declassify(a)":             {12, api.ErrParse},
		"declassify(a;@low)":        {12, api.ErrParse},
		"declassify(a, low)":        {14, api.ErrParse},
		"declassify(a,@=low)":       {13, api.ErrParse},
		"declassify(a,@)":           {14, api.ErrParse},
		"declassify(a,@1)":          {14, api.ErrParse},
		"declassify(a,@int)":        {14, api.ErrParse},
		"declassify(a,@" + long:     {14, api.ErrParse},
		"declassify(a,@low":         {17, api.ErrParse},
		"declassify(a,@low,@low)":   {17, api.ErrParse},
		"declassify(a,@low.low)":    {17, api.ErrParse},
		"declassify(a,@b)(c":        {16, api.ErrParse},
		"9223372036854775808":       {0, api.ErrOver},
		"1+9223372036854775808":     {2, api.ErrOver},
		"-9223372036854775808":      {1, api.ErrOver},
		strings.Repeat("9", 999):    {0, api.ErrOver},
		"f(18446744073709551616":    {2, api.ErrOver},
		"f(+9223372036854775808":    {2, api.ErrParse},
		"9223372036854775808+":      {0, api.ErrOver},
		"a $":                       {2, api.ErrLex},
		"$":                         {0, api.ErrLex},
		"a & b & c":                 {2, api.ErrLex},
		"+ 9223372036854775808 | |": {22, api.ErrLex},
		"a\x00":                     {1, api.ErrLex},
	} {
		parses(t, in, api.Expr{}, want.pos, want.err)
	}
}

// TestLevels holds all pairs of signs against their levels.
func TestLevels(t *testing.T) {
	for _, s := range strings.Fields(signLevels) {
		first := s[:len(s)-1]
		for _, s := range strings.Fields(signLevels) {
			second := s[:len(s)-1]
			b, c := 1+len(first), 2+len(first)+len(second)
			want := binary(0, second, binary(0, first, name(0, "a"), name(b, "b")), name(c, "c"))
			if levelOf(second) > levelOf(first) {
				want = binary(0, first, name(0, "a"), binary(b, second, name(b, "b"), name(c, "c")))
			}
			in := "a" + first + "b" + second + "c"
			parses(t, in, want, len(in), api.OK)
		}
	}
}

func times(n int, s string) string { return strings.Repeat(s, n) }

// TestDeep goes as deep as may be, and one deeper.
func TestDeep(t *testing.T) {
	for in, want := range map[string]struct {
		pos int
		err api.Errno
	}{
		times(32, "(") + "a" + times(32, ")"):                        {65, api.OK},
		times(33, "(") + "a" + times(33, ")"):                        {32, api.ErrDeep},
		times(33, "("):                                               {32, api.ErrDeep},
		times(32, "("):                                               {32, api.ErrParse},
		times(32, "(") + "f(":                                        {33, api.ErrDeep},
		times(32, "(") + "f)":                                        {34, api.ErrParse},
		times(32, "(") + "declassify(":                               {42, api.ErrDeep},
		times(32, "(") + "declassify":                                {42, api.ErrParse},
		times(32, "(") + "declassify )":                              {43, api.ErrParse},
		times(32, "(") + "-":                                         {32, api.ErrDeep},
		times(32, "(") + "!":                                         {32, api.ErrDeep},
		times(32, "(") + "a-b" + times(32, ")"):                      {67, api.OK},
		times(32, "(") + "a--b":                                      {34, api.ErrDeep},
		times(31, "(") + "-a+-b" + times(31, ")"):                    {67, api.OK},
		times(31, "(") + "(a)+(b)" + times(31, ")"):                  {69, api.OK},
		times(31, "(") + "f(a)+g(b)" + times(31, ")"):                {71, api.OK},
		times(31, "(") + "f(g(a))":                                   {34, api.ErrDeep},
		times(31, "(") + "f()" + times(31, ")"):                      {65, api.OK},
		times(31, "(") + "-(a)":                                      {32, api.ErrDeep},
		times(31, "(") + "declassify(a,@b)" + times(31, ")"):         {78, api.OK},
		times(31, "(") + "declassify((":                              {42, api.ErrDeep},
		times(16, "-(") + "a" + times(16, ")"):                       {49, api.OK},
		times(16, "-(") + "(a)" + times(16, ")"):                     {32, api.ErrDeep},
		times(31, "-") + "a":                                         {32, api.OK},
		times(32, "!") + "a":                                         {0, api.ErrDeep},
		times(32, "!") + "+":                                         {32, api.ErrParse},
		times(33, "!") + "a":                                         {32, api.ErrDeep},
		times(40, "(a)+") + "a":                                      {127, api.ErrDeep},
		"f(" + times(99, "(a),") + "a)":                              {400, api.OK},
		"f(" + times(99, "-a,") + times(32, "(") + "a":               {330, api.ErrDeep},
		times(32, "(") + "a" + times(32, ")") + "+" + times(33, "("): {98, api.ErrDeep},
	} {
		e, pos, err := expr.Parse([]byte(in))
		if pos != want.pos || err != want.err {
			t.Fatalf("Parse(%q): %d, %d; not %d, %d", in, pos, err, want.pos, want.err)
		}
		if (err == api.OK) == same(e, api.Expr{}) {
			t.Fatalf("Parse(%q): %+v", in, e)
		}
	}
}

// TestTooHigh goes as high as may be, and one higher.
func TestTooHigh(t *testing.T) {
	high := "a" + times(31, "+a") // of height 32
	nest := "(" + high + ")"
	for in, want := range map[string]struct {
		pos int
		err api.Errno
	}{
		high:                            {63, api.OK},
		high + "+a":                     {63, api.ErrDeep},
		high + " + a":                   {64, api.ErrDeep},
		high + "+":                      {64, api.ErrParse},
		high + "+a b":                   {63, api.ErrDeep},
		high + "+a+":                    {63, api.ErrDeep},
		high + "*a":                     {65, api.OK},
		high + "*a*a":                   {67, api.OK},
		high + "*a+a":                   {65, api.ErrDeep},
		high + "==a":                    {63, api.ErrDeep},
		"a*" + nest:                     {1, api.ErrDeep},
		"a*" + nest + "*":               {1, api.ErrDeep},
		"a*(" + high + "*":              {67, api.ErrParse},
		"a+b*" + nest:                   {3, api.ErrDeep},
		nest:                            {65, api.OK},
		" -" + nest:                     {1, api.ErrDeep},
		"-(" + high + " b)":             {66, api.ErrParse},
		"1+f(" + high + ")":             {2, api.ErrDeep},
		"1+f(" + high + ",a b)":         {70, api.ErrParse},
		"1+f(" + high + ",a":            {69, api.ErrParse},
		"1+f(a," + high + ",a)":         {2, api.ErrDeep},
		"m . f(" + high + ")":           {0, api.ErrDeep},
		"1+declassify(" + high + ",@b)": {2, api.ErrDeep},
		"1+declassify(" + high + ",@1)": {78, api.ErrParse},
		"1+declassify(" + high + ",@b":  {79, api.ErrParse},
		"1+declassify(" + high + ")":    {76, api.ErrParse},
		"f(a" + times(30, "+a") + ")":   {64, api.OK},
		"declassify(a" + times(30, "+a") + ",@b)": {76, api.OK},
		"-(a" + times(30, "+a") + ")":             {64, api.OK},
		times(32, "f(") + times(32, ")"):          {96, api.OK},
		times(32, "f(") + "a" + times(32, ")"):    {0, api.ErrDeep},
		"a+" + times(32, "f(") + times(32, ")"):   {1, api.ErrDeep},
	} {
		e, pos, err := expr.Parse([]byte(in))
		if pos != want.pos || err != want.err {
			t.Fatalf("Parse(%q): %d, %d; not %d, %d", in, pos, err, want.pos, want.err)
		}
		if err == api.OK && expr.Height(e) != 32 || err != api.OK && !same(e, api.Expr{}) {
			t.Fatalf("Parse(%q): %+v", in, e)
		}
	}
}

// A printed one is an expression, and the text that it was made to.
type printed struct {
	w   writer
	out string
}

// tree makes an expression of some height, and prints it; level is the least one that may stand there without brackets.
func (p *printed) tree(height, level int) api.Expr {
	p.out += p.w.gap()
	at := len(p.out)
	if height > 1 && p.w.IntN(3) > 0 {
		if p.w.IntN(3) > 0 {
			return p.pair(height, level)
		}
		return p.single(height)
	}
	switch p.w.IntN(6) {
	case 0:
		p.out += "true"
		return truth(at, 1)
	case 1:
		p.out += "false"
		return truth(at, 0)
	case 2:
		p.out += "007 "
		return num(at, 7)
	case 3:
		p.out += "m" + p.w.gap() + "." + p.w.gap() + "x"
		return name(at, "m.x")
	case 4:
		p.out += "f" + p.w.gap() + "(" + p.w.gap() + ")"
		return call(at, "f")
	}
	p.out += "a_1"
	return name(at, "a_1")
}

// pair prints a binary one, in brackets where its level asks for them, and here and there without need.
func (p *printed) pair(height, level int) api.Expr {
	sign := strings.Fields(signLevels)[p.w.IntN(7)]
	sign = sign[:len(sign)-1]
	brackets := levelOf(sign) < level || p.w.IntN(5) == 0
	if brackets {
		p.out += "("
	}
	left := p.tree(height-1, levelOf(sign))
	p.out += p.w.gap() + sign
	right := p.tree(height-1, levelOf(sign)+1)
	if brackets {
		p.out += p.w.gap() + ")"
	}
	return binary(left.At, sign, left, right)
}

// single prints a sign, a call or a declassify.
func (p *printed) single(height int) api.Expr {
	at := len(p.out)
	switch p.w.IntN(3) {
	case 0:
		sign := p.w.one([]string{"!", "-"})
		p.out += sign
		return unary(at, sign, p.tree(height-1, 6))
	case 1:
		p.out += "declassify" + p.w.gap() + "("
		e := p.tree(height-1, 1)
		p.out += p.w.gap() + "," + p.w.gap() + "@" + p.w.gap() + "low" + p.w.gap() + ")"
		return open(at, "low", e)
	}
	p.out += "m.f("
	l := []api.Expr{p.tree(height-1, 1)}
	for range p.w.IntN(3) {
		p.out += ","
		l = append(l, p.tree(height-1, 1))
	}
	p.out += p.w.gap() + ")"
	return call(at, "m.f", l...)
}

// TestTrees prints expressions, and reads them again.
func TestTrees(t *testing.T) {
	for seed := range uint64(5000) {
		p := &printed{w: newWriter(seed)}
		want := p.tree(1+p.w.IntN(7), 1)
		p.out += p.w.gap()
		parses(t, p.out, want, len(p.out), api.OK)
		if expr.Height(want) != tall(want) {
			t.Fatal(p.out, expr.Height(want), tall(want))
		}
	}
}

// behind tells whether no part of an expression begins ahead of it, all the way down.
func behind(e api.Expr) bool {
	for _, x := range e.L {
		if x.At < e.At || !behind(x) {
			return false
		}
	}
	return true
}

// TestAnyBytes asks of any bytes for a right answer, or an error at a place in them.
func TestAnyBytes(t *testing.T) {
	alphabet := "aab1.,()()@-!+*<=&| #\n$"
	for seed := range uint64(50000) {
		w := newWriter(seed)
		b := make([]byte, w.IntN(40))
		for i := range b {
			b[i] = alphabet[w.IntN(len(alphabet))]
			if w.IntN(200) == 0 {
				b[i] = byte(w.IntN(256))
			}
		}
		old := string(b)
		room := append(slices.Clone(b), "+a$"...)
		e, pos, err := expr.Parse(room[:len(b)])
		again, pos2, err2 := expr.Parse(b)
		if !same(e, again) || pos != pos2 || err != err2 || string(b) != old || string(room[len(b):]) != "+a$" {
			t.Fatalf("%q: %+v, %d, %d; %+v, %d, %d", b, e, pos, err, again, pos2, err2)
		}
		if pos < 0 || pos > len(b) || err == api.OK && pos != len(b) || err != api.OK && !same(e, api.Expr{}) {
			t.Fatalf("%q: %+v, %d, %d", b, e, pos, err)
		}
		if !behind(e) || expr.Height(e) > api.MaxDeep {
			t.Fatalf("%q: %+v", b, e)
		}
		modelled(t, old)
	}
}

// walks holds a cursor against the tokens that count, from the first one on.
func walks(t *testing.T, in string) {
	t.Helper()
	b := []byte(in)
	c := expr.New(b)
	clear(b) // it keeps none of the bytes that it was given
	end := 0
	for _, tok := range append(lex.Live(lex.All([]byte(in))), api.Tok{Kind: api.TokBlank, At: len(in), End: len(in)}) {
		text := in[tok.At:tok.End]
		for range 2 { // asking changes nothing
			if c.Peek() != text || c.Kind() != tok.Kind || c.Pos() != tok.At || c.End() != end || c.Done() != (text == "") {
				t.Fatalf("%q at %d: %q, %d, %d, %d, %v", in, tok.At, c.Peek(), c.Kind(), c.Pos(), c.End(), c.Done())
			}
			if c.Take("") || c.Take(text+" ") || c.Take("x"+text) || text != "" && c.Take(text[1:]) || len(text) > 1 && c.Take(text[:1]) {
				t.Fatalf("%q at %d: taken", in, tok.At)
			}
		}
		end = tok.End
		if lex.Ident(text) && len(text)%2 == 0 {
			if s, ok := c.Ident(); s != text || !ok {
				t.Fatalf("%q at %d: %q, %v", in, tok.At, s, ok)
			}
			continue
		}
		if s, ok := c.Ident(); !lex.Ident(text) && (s != "" || ok) {
			t.Fatalf("%q at %d: %q, %v", in, tok.At, s, ok)
		} else if !ok && c.Take(text) != (text != "") {
			t.Fatalf("%q at %d: not taken", in, tok.At)
		}
	}
	for range 2 {
		if s, ok := c.Ident(); s != "" || ok || c.Take(" ") || !c.Done() || c.Pos() != len(in) {
			t.Fatalf("%q behind it: %q, %v, %d", in, s, ok, c.Pos())
		}
	}
}

func TestCursor(t *testing.T) {
	long := times(25, "x")
	for _, in := range []string{
		"", " ", "# all of it", "a", " a ", "ab cd", "if int true", "a@=b#c\nd", "$ & a|b", "1a 12 _", long, long[1:], "a.b(c)\n",
		"a==b<=c", "\xff\x00 a", "==", "fn f(a: int @low) -> int { return a + 1; }",
	} {
		walks(t, in)
	}
	w := newWriter(8)
	for range 5000 {
		in := ""
		for range w.IntN(10) {
			in += w.one([]string{"a", "ab", "if", "1", "==", "=", "$", "&", "@=", long, " ", "#x\n", "\n", "(", "é"})
		}
		walks(t, in)
	}
}

// TestGoesOn reads one expression behind the other, and goes on behind an error.
func TestGoesOn(t *testing.T) {
	c := expr.New([]byte("a+1; f(b) c )x"))
	steps := []struct {
		take string
		e    api.Expr
		err  api.Errno
		pos  int
		end  int
	}{
		{"", binary(0, "+", name(0, "a"), num(2, 1)), api.OK, 3, 3},
		{"", api.Expr{}, api.ErrParse, 3, 3},
		{";", call(5, "f", name(7, "b")), api.OK, 10, 9},
		{"", name(10, "c"), api.OK, 12, 11},
		{"", api.Expr{}, api.ErrParse, 12, 11},
		{")", name(13, "x"), api.OK, 14, 14},
		{"", api.Expr{}, api.ErrParse, 14, 14},
	}
	for _, s := range steps {
		if c.Take(s.take) != (s.take != "") {
			t.Fatal(s)
		}
		if e, err := c.Expr(); !same(e, s.e) || err != s.err || c.Pos() != s.pos || c.End() != s.end {
			t.Fatal(s, e, err, c.Pos(), c.End())
		}
	}
	// Behind an error of depth the cursor stands at the place that is told, and reads on from there.
	c = expr.New([]byte(times(40, "(") + "a" + times(40, ")")))
	if _, err := c.Expr(); err != api.ErrDeep || c.Pos() != 32 {
		t.Fatal(err, c.Pos())
	}
	if e, err := c.Expr(); !same(e, name(40, "a")) || err != api.OK || c.Pos() != 49 {
		t.Fatal(e, err, c.Pos())
	}
	c = expr.New([]byte("a " + times(32, "-") + "a"))
	c.Take("a")
	if _, err := c.Expr(); err != api.ErrDeep || c.Pos() != 2 {
		t.Fatal(err, c.Pos())
	}
}

func TestNil(t *testing.T) {
	var c *expr.Cursor
	s, ok := c.Ident()
	if c.Peek() != "" || c.Kind() != 0 || c.Pos() != 0 || c.End() != 0 || c.Take("") || c.Take("a") || s != "" || ok || c.Done() {
		t.Fatal("a nil cursor")
	}
	if e, err := c.Expr(); !same(e, api.Expr{}) || err != api.ErrArg {
		t.Fatal(e, err)
	}
	// One that New didn't make, and one of no bytes, are the same thing.
	for _, c := range []*expr.Cursor{{}, expr.New(nil), expr.New([]byte{})} {
		s, ok := c.Ident()
		if c.Peek() != "" || c.Kind() != api.TokBlank || c.Pos() != 0 || c.End() != 0 || c.Take("") || s != "" || ok || !c.Done() {
			t.Fatal("an empty cursor")
		}
		if e, err := c.Expr(); !same(e, api.Expr{}) || err != api.ErrParse {
			t.Fatal(e, err)
		}
	}
}

// over writes over all of an expression, and what lies behind its lists.
func over(e *api.Expr) {
	l := e.L[:cap(e.L)]
	for i := range l {
		over(&l[i])
	}
	*e = api.Expr{Kind: -1, At: -1, Num: -1, Name: "?", Label: "?"}
}

// TestMemory writes over answers; nothing else may change by it.
func TestMemory(t *testing.T) {
	in := []byte("f(a,b,c,d,e)+g(a,b,c)*declassify(-a,@low)")
	c := expr.New(in)
	mid := expr.New(in)
	want, _, _ := expr.Parse(slices.Clone(in))
	first, _, err := expr.Parse(in)
	if err != api.OK || !same(first, want) {
		t.Fatal(first, err)
	}
	over(&first.L[0])
	if !same(first.L[1], want.L[1]) {
		t.Fatal("two parts share memory")
	}
	over(&first)
	if string(in) != "f(a,b,c,d,e)+g(a,b,c)*declassify(-a,@low)" {
		t.Fatalf("%q", in)
	}
	clear(in)
	if e, err := c.Expr(); err != api.OK || !same(e, want) {
		t.Fatal(e, err)
	} else {
		over(&e)
	}
	if e, err := mid.Expr(); err != api.OK || !same(e, want) {
		t.Fatal(e, err)
	}
}

func TestHeight(t *testing.T) {
	leaf := []api.Expr{{}}
	for _, c := range []struct {
		e    api.Expr
		want int
	}{
		{api.Expr{}, 1},
		{api.Expr{Kind: api.ExprNum, L: leaf}, 1},
		{api.Expr{Kind: api.ExprBool, L: leaf}, 1},
		{api.Expr{Kind: api.ExprName, L: leaf}, 1},
		{api.Expr{Kind: api.ExprCall}, 1},
		{api.Expr{Kind: api.ExprCall, L: leaf}, 2},
		{api.Expr{Kind: api.ExprUnary, L: leaf}, 2},
		{api.Expr{Kind: api.ExprBinary, L: leaf}, 2},
		{api.Expr{Kind: api.ExprOpen, L: leaf}, 2},
		{api.Expr{Kind: -1, L: leaf}, 2},
		{api.Expr{Kind: 7, L: leaf}, 2},
		{api.Expr{Kind: 7, L: []api.Expr{}}, 1},
		{call(0, "f", num(0, 1), call(0, "g", num(0, 1)), num(0, 1)), 3},
		{binary(0, "+", unary(0, "-", unary(0, "-", num(0, 1))), num(0, 1)), 4},
		{binary(0, "+", num(0, 1), api.Expr{L: []api.Expr{call(0, "g", num(0, 1))}}), 2},
	} {
		if n := expr.Height(c.e); n != c.want || n != tall(c.e) {
			t.Fatal(c.e, n, c.want)
		}
	}
	e, wide := api.Expr{}, api.Expr{Kind: api.ExprCall}
	for range 300000 {
		e = api.Expr{Kind: api.ExprUnary, L: []api.Expr{e}}
		wide.L = append(wide.L, unary(0, "-", num(0, 1)))
	}
	if n := expr.Height(e); n != 300001 {
		t.Fatal(n)
	}
	if n := expr.Height(wide); n != 3 {
		t.Fatal(n)
	}
	var any func(w writer, left int) api.Expr
	any = func(w writer, left int) api.Expr {
		e := api.Expr{Kind: w.IntN(9) - 1, Name: strconv.Itoa(left)}
		for range w.IntN(4) {
			if left > 0 {
				e.L = append(e.L, any(w, left-1))
			}
		}
		return e
	}
	for seed := range uint64(2000) {
		if e := any(newWriter(seed), 6); expr.Height(e) != tall(e) {
			t.Fatal(e, expr.Height(e), tall(e))
		}
	}
}

// TestHugeTexts reads texts that are far longer than any limit.
func TestHugeTexts(t *testing.T) {
	n := 1 << 18
	parses(t, times(n, " ")+"a", name(n, "a"), n+1, api.OK)
	parses(t, times(n, "0")+"1", num(0, 1), n+1, api.OK)
	parses(t, times(n, "9"), api.Expr{}, 0, api.ErrOver)
	parses(t, times(n, "a"), api.Expr{}, 0, api.ErrParse)
	parses(t, times(n, "("), api.Expr{}, 32, api.ErrDeep)
	parses(t, times(n, "a+"), api.Expr{}, 63, api.ErrDeep)
	parses(t, times(n, "!"), api.Expr{}, 32, api.ErrDeep)
	e, pos, err := expr.Parse([]byte("f(" + times(n, "a,") + "a)"))
	if len(e.L) != n+1 || pos != 2*n+4 || err != api.OK || expr.Height(e) != 2 {
		t.Fatal(len(e.L), pos, err)
	}
}
