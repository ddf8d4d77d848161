package show_test

import (
	"reflect"
	"strings"
	"testing"

	"blazon/api"
	"blazon/expr"
	"blazon/file"
	"blazon/lex"
	"blazon/show"
	"blazon/stmt"
)

// bare takes the places out of a value, and makes of each list without elements one that is nil, since these are the same thing.
func bare(v reflect.Value) {
	switch v.Kind() {
	case reflect.Struct:
		for i := range v.NumField() {
			switch v.Type().Field(i).Name {
			case "At", "From", "To":
				v.Field(i).SetZero()
			default:
				bare(v.Field(i))
			}
		}
	case reflect.Slice:
		if v.Len() == 0 {
			v.SetZero()
		}
		for i := range v.Len() {
			bare(v.Index(i))
		}
	}
}

// same tells whether two things are the same, but for the places.
func same[T any](a, b T) bool {
	bare(reflect.ValueOf(&a).Elem())
	bare(reflect.ValueOf(&b).Elem())
	return reflect.DeepEqual(a, b)
}

// A kind of things that are read, and told.
type kind[T any] struct {
	read func(b []byte) (T, int, api.Errno)
	tell func(v T) string
}

func exprs() kind[api.Expr] { return kind[api.Expr]{expr.Parse, show.Expr} }

func rows(deep int) kind[[]api.Stmt] {
	return kind[[]api.Stmt]{stmt.Parse, func(l []api.Stmt) string { return show.Stmts(l, deep) }}
}

func files() kind[api.Module] { return kind[api.Module]{file.Parse, show.Module} }

// kept reads a text, tells it, reads that, and tells it again; it answers what was told.
func kept[T any](t *testing.T, k kind[T], in string) string {
	t.Helper()
	v, _, err := k.read([]byte(in))
	if err != api.OK {
		t.Fatalf("%q: %d", in, err)
	}
	out := k.tell(v)
	again, pos, err := k.read([]byte(out))
	if err != api.OK || pos != len(out) || !same(again, v) {
		t.Fatalf("%q is told %q: %d at %d", in, out, err, pos)
	}
	if s := k.tell(again); s != out {
		t.Fatalf("%q is told %q, and then %q", in, out, s)
	}
	needed(t, k, out, v)
	return out
}

// needed takes each pair of brackets around an expression out of what was told.
func needed[T any](t *testing.T, k kind[T], out string, v T) {
	t.Helper()
	l := lex.Live(lex.All([]byte(out)))
	var groups []int
	for i, tok := range l {
		switch out[tok.At:tok.End] {
		case "(":
			// Behind a word, but for return, they are of a call, a declassify, an if, a while, or a function.
			if i > 0 && l[i-1].Kind == api.TokWord && out[l[i-1].At:l[i-1].End] != "return" {
				groups = append(groups, -1)
			} else {
				groups = append(groups, tok.At)
			}
		case ")":
			from := groups[len(groups)-1]
			groups = groups[:len(groups)-1]
			if from < 0 {
				continue
			}
			less := out[:from] + " " + out[from+1:tok.At] + " " + out[tok.End:]
			if other, _, err := k.read([]byte(less)); err == api.OK && same(other, v) {
				t.Fatalf("%q has brackets at %d that aren't needed", out, from)
			}
		}
	}
}

func TestKept(t *testing.T) {
	for in, want := range map[string]string{
		"1+(2*x)": "1 + 2 * x", "(1+2)*x": "(1 + 2) * x",
		"a": "a", "((a))": "a", "007": "7", "true": "true", "false": "false", "m . v": "m.v", "f ( )": "f()", "m.f((a),(b+c))": "m.f(a, b + c)",
		"--a": "--a", "-(-(a))": "--a", "!-!a": "!-!a", "-(a)-b": "-a - b", "-(a-b)": "-(a - b)", "-(f(a))": "-f(a)", "a- -b": "a - -b", "!(a)==b": "!a == b",
		"(a-b)-c": "a - b - c", "a-(b-c)": "a - (b - c)", "a+(b+c)": "a + (b + c)", "(a*b)+(c*d)": "a * b + c * d", "(a+b)*(c+d)": "(a + b) * (c + d)",
		"((a||b)&&(c==d))<e": "((a || b) && c == d) < e", "a<(b<c)": "a < (b < c)", "(a<b)<c": "a < b < c", "(a&&b)||c": "a && b || c", "a&&(b||c)": "a && (b || c)",
		"declassify ( (a+b) , @ low )": "declassify(a + b, @low)", "f(g(),declassify(a,@l))#b": "f(g(), declassify(a, @l))",
		"9223372036854775807": "9223372036854775807",
	} {
		if out := kept(t, exprs(), in); out != want {
			t.Fatalf("%q is told %q", in, out)
		}
	}
	for in, want := range map[string]string{
		"": "", "#a": "", "do x;": "do x;\n", "(x)=(1);": "x = 1;\n", "((f(x)));": "f(x);\n", "let x:int@=low=(1);": "let x: int @=low = 1;\n", "let x:bool=!a;": "let x: bool = !a;\n",
		"if((a)){}else{}": "if (a) {\n}\n", "if(a){}else{do x;}do y;": "if (a) {\n} else {\n\tdo x;\n}\ndo y;\n", "while(a){while(b){f();}}": "while (a) {\n\twhile (b) {\n\t\tf();\n\t}\n}\n",
	} {
		if out := kept(t, rows(0), in); out != want {
			t.Fatalf("%q is told %q", in, out)
		}
	}
	in := "fn f(a:bool@l):int/{x,y}{return (1+2)*3;}var b:int@=h;lattice{l<h;m;}effects{y;x;}import n;fn g():bool{return true;}"
	want := "import n;\nlattice {\n\tl < h;\n\tm;\n}\neffects {\n\ty;\n\tx;\n}\nvar b: int @=h;\nfn f(a: bool @l): int /{x, y} {\n\treturn (1 + 2) * 3;\n}\nfn g(): bool {\n\treturn true;\n}\n"
	if out := kept(t, files(), in); out != want {
		t.Fatalf("%q is told %q", in, out)
	}
}

// trees are all expressions of so many signs, and of one name.
func trees(signs int, seen map[int][]api.Expr) []api.Expr {
	if l, ok := seen[signs]; ok {
		return l
	}
	l := []api.Expr{name("a")}
	if signs > 0 {
		l = nil
		for _, e := range trees(signs-1, seen) {
			l = append(l, unary("-", e), unary("!", e))
		}
		for left := range signs {
			for _, a := range trees(left, seen) {
				for _, b := range trees(signs-1-left, seen) {
					for _, s := range strings.Fields(signLevels) {
						l = append(l, binary(s[:len(s)-1], a, b))
					}
				}
			}
		}
	}
	seen[signs] = l
	return l
}

// TestAllTrees tells all expressions of up to four signs.
func TestAllTrees(t *testing.T) {
	seen := map[int][]api.Expr{}
	for signs := range 5 {
		for _, e := range trees(signs, seen) {
			out := show.Expr(e)
			again, _, err := expr.Parse([]byte(out))
			if err != api.OK || !same(again, e) {
				t.Fatalf("%+v is told %q, which is read %+v, %d", e, out, again, err)
			}
			needed(t, exprs(), out, e)
		}
	}
	if len(seen[4]) < 60000 {
		t.Fatal(len(seen[4]))
	}
}

// TestLoose reads texts with brackets, blanks and notes that aren't needed, and items in other orders.
func TestLoose(t *testing.T) {
	strict := newModel()
	for seed := range uint64(3000) {
		k := newMaker(seed, false)
		loose := model{k.Rand}
		e, l, m := k.expr(6), k.stmts(3), k.module()
		if out := kept(t, exprs(), k.loosen(loose.expr(e))); out != strict.expr(e) {
			t.Fatalf("%q, not %q", out, strict.expr(e))
		}
		deep := k.IntN(40) - 3
		want := strict.text(strict.stmts(l), min(32, max(0, deep)))
		if out := kept(t, rows(deep), k.loosen(loose.text(loose.stmts(l), 0))); out != want {
			t.Fatalf("%q, not %q", out, want)
		}
		if len(strict.module(m)) > 2000 {
			continue
		}
		in := ""
		items := loose.items(m)
		for len(items) > 0 {
			i := k.IntN(len(items))
			if len(items[i]) == 0 {
				items = append(items[:i], items[i+1:]...)
				continue
			}
			in += items[i][0]
			items[i] = items[i][1:]
		}
		if out := kept(t, files(), k.loosen(in)); out != strict.module(m) {
			t.Fatalf("%q, not %q", out, strict.module(m))
		}
	}
}

// TestDeepest reads what stands as deep as may be: what it is told by stands no deeper.
func TestDeepest(t *testing.T) {
	for _, in := range []string{
		times(32, "(") + "a" + times(32, ")"),
		times(31, "-") + "a", times(16, "!(") + "a" + times(16, ")"), times(15, "-(") + "a+b" + times(15, ")"),
		times(31, "a-(") + "a" + times(31, ")"), times(30, "a*(") + "a+b" + times(30, ")"), "a" + times(31, "-a"),
		times(31, "f(") + "a" + times(31, ")"), times(31, "declassify(") + "a" + times(31, ",@l)"),
		times(15, "a*(") + times(15, "a+(") + "a<b" + times(30, ")"), times(30, "(") + "a<b" + times(15, ")+a") + times(15, ")*a"),
	} {
		kept(t, exprs(), in)
	}
	blocks := times(31, "if(a){") + "while(b){do x;}" + times(31, "}else{do y;}")
	if out := kept(t, rows(0), blocks); strings.Count(out, "\n"+times(32, "\t")+"do x;\n") != 1 {
		t.Fatal(out)
	}
	for _, deep := range []int{1, 31, 32, 99} {
		kept(t, rows(deep), blocks)
	}
	kept(t, files(), "fn f():int{"+times(30, "while(a){")+"if(b){do x;}else{do y;}"+times(30, "}")+"return "+times(31, "-")+"a;}")
}

// TestLonger tells a file whose text is longer than one may be that is read: whole.
func TestLonger(t *testing.T) {
	in := "fn f():int{" + times(4000, "a=b;") + "return a;}"
	m, _, err := file.Parse([]byte(in))
	if err != api.OK {
		t.Fatal(err)
	}
	out := show.Module(m)
	if out != "fn f(): int {\n"+times(4000, "\ta = b;\n")+"\treturn a;\n}\n" {
		t.Fatal(len(out))
	}
	if _, pos, err := file.Parse([]byte(out)); pos != api.MaxText || err != api.ErrLong {
		t.Fatal(pos, err)
	}
	l, _, err := stmt.Parse([]byte(show.Stmts(m.Fns[0].Body, 1)))
	if err != api.OK || !same(l, m.Fns[0].Body) {
		t.Fatal(len(l), err)
	}
}

// TestAnyBytes reads any bytes, and tells what is read.
func TestAnyBytes(t *testing.T) {
	words := []string{"a", "a", "1", "f", "(", "(", ")", ")", "-", "!", "+", "*", "<", "==", "&&", "||", ",", "declassify(", ",@l)", " ", "#\n", "true", "m.", "$"}
	more := []string{"a", "=", "b;", "f();", "do x;", "if(a){", "while(a+b){", "}", "}else{", "let a:int", "@l", "@=l", "=(1+2)*3;", "$"}
	read := [2]int{}
	for seed := range uint64(60000) {
		k := newMaker(seed, false)
		in, rowIn := "", ""
		for range 1 + k.IntN(9) {
			in += k.one(words...)
			rowIn += k.one(more...)
		}
		if _, _, err := expr.Parse([]byte(in)); err == api.OK {
			read[0]++
			kept(t, exprs(), in)
		}
		if _, _, err := stmt.Parse([]byte(rowIn)); err == api.OK {
			read[1]++
			kept(t, rows(0), rowIn)
		}
	}
	if read[0] < 500 || read[1] < 500 {
		t.Fatal(read)
	}
}
