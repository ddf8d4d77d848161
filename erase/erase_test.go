package erase_test

import (
	"bytes"
	"math"
	"slices"
	"strconv"
	"strings"
	"testing"

	"blazon/api"
	"blazon/erase"
	"blazon/file"
)

func TestCore(t *testing.T) {
	for in, want := range map[string]string{
		"": "", " \n# var\n": "",
		"var a: int @low;":              "var a : int ;",
		"var a:int@=low;":               "var a : int ;",
		"var a: int;":                   "var a : int ;",
		"var a: int # @low\n;":          "var a : int ;",
		"var a: int @ # x\n low # y\n;": "var a : int ;",
		"var low: int @low;":            "var low : int ;",
		"import low; lattice { low < high; mid; } effects { net; }": "import low ; lattice { low < high ; mid ; } effects { net ; }",
		"fn f(a: int @a, b: bool): bool @=b /{} { return b; }":      "fn f ( a : int , b : bool ) : bool / { } { return b ; }",
		"fn f(): int { let x: int @low = declassify(m.v, @low); if (x < 1) { let y: bool @=low = true; } else { let z: bool @low = !y; } return -x; }": "fn f ( ) : int { let x : int = declassify ( m . v , @ low ) ; if ( x < 1 ) { let y : bool = true ; } else { let z : bool = ! y ; } return - x ; }",
		"fn f(): int @low { while (a) { let x: int @a = f(1, 02); } return x; } var y: bool @b;":                                                       "fn f ( ) : int { while ( a ) { let x : int = f ( 1 , 02 ) ; } return x ; } var y : bool ;",
	} {
		l, err := erase.Core([]byte(in))
		if err != api.OK || !slices.Equal(l, strings.Fields(want)) {
			t.Errorf("%q: %q, %d", in, l, err)
		}
	}
}

func TestSame(t *testing.T) {
	for _, c := range []struct {
		a, b string
		want bool
	}{
		{"", "", true}, {"", " # a\n", true}, {"", "var a: int;", false},
		{"var a: int;", "var a : int @low ;", true}, {"var a: int @=high;", "#\nvar a:int @low;", true}, {"var a: int;", "var a: bool;", false},
		{"var a: int;", "var b: int;", false}, {"var a: int;", "var a: int; var a: int;", false}, {"var a: int; var b: int;", "var b: int; var a: int;", false},
		{"fn f(): int { return 1; }", "fn f(): int @a { return 1; }", true}, {"fn f(): int { return 1; }", "fn f(): int { return 01; }", false},
		{"fn f(): int { return 1; }", "fn f(): int { return (1); }", false}, {"fn f(): int { return 1; }", "fn f(): int /{} { return 1; }", false},
		{"fn f(): int { return declassify(a, @low); }", "fn f(): int { return declassify(a, @high); }", false},
		{"?", "?", false}, {"", "?", false}, {"?", "", false}, {"var", "var", false}, {"var a: int @low;", "var a: int @;", false}, {"var a: int @if;", "var a: int;", false},
	} {
		if got := erase.Same([]byte(c.a), []byte(c.b)); got != c.want {
			t.Errorf("%q, %q: %v", c.a, c.b, got)
		}
	}
}

func TestStrip(t *testing.T) {
	for in, want := range map[string]string{
		"": "", "# @low": "# @low",
		"var x: int @low;":                     "var x: int ;",
		"var x: int@low;":                      "var x: int;",
		"var x: int@=low;":                     "var x: int;",
		"var x: int;":                          "var x: int;",
		"var x: int\n\t@=\n\tlow\t;\n":         "var x: int\n\t\t;\n",
		"var x: int #a\n@ #b\n#c\nlow #d\n;#e": "var x: int #a\n #d\n;#e",
		"fn f(a: int @a,b: bool@b , c: int@=c): bool @=b/{net} {let d: int @d= declassify(a, @low);return b;}":  "fn f(a: int ,b: bool , c: int): bool /{net} {let d: int = declassify(a, @low);return b;}",
		"fn f(): int@a{if(a){let x:int@b=1;}else{let y:int@c=1;}while(a){let z:int@d=1;}return 1;}var v:int@e;": "fn f(): int{if(a){let x:int=1;}else{let y:int=1;}while(a){let z:int=1;}return 1;}var v:int;",
		"lattice { low < high; } var low: int @low; import low;":                                                "lattice { low < high; } var low: int ; import low;",
	} {
		out, err := erase.Strip([]byte(in))
		if err != api.OK || string(out) != want {
			t.Errorf("%q: %q, %d", in, out, err)
		}
	}
}

// TestErrorsOfReading has each error of layer 10, of each call that reads.
func TestErrorsOfReading(t *testing.T) {
	long := []byte("var a: int @low;" + strings.Repeat(" ", api.MaxText-15))
	for in, want := range map[string]api.Errno{
		"?": api.ErrLex, "var a: int @low; $": api.ErrLex, "var": api.ErrParse, "var a: int @low": api.ErrParse, "var a: int @;": api.ErrParse,
		"var a: int @true;": api.ErrParse, "var a: int @= =low;": api.ErrParse, "var a: int @low @low;": api.ErrParse, "lattice {} lattice {}": api.ErrParse,
		"fn f(a: int, a: int, a: int, a: int, a: int, a: int, a: int, a: int, a: int): int { return 1; }": api.ErrLong,
		"fn f(): int { return " + strings.Repeat("(", 33) + "a" + strings.Repeat(")", 33) + "; }":         api.ErrDeep,
		"fn f(): int { " + strings.Repeat("while (a) {", 32) + strings.Repeat("}", 32) + " return 1; }":   api.ErrDeep,
		"fn f(): int { return 9223372036854775808; }":                                                     api.ErrOver,
		string(long):                                api.ErrLong,
		strings.Repeat("x", 25) + " $":              api.ErrLex,
		"var " + strings.Repeat("x", 25) + ": int;": api.ErrParse,
	} {
		_, _, read := file.Parse([]byte(in))
		l, e := erase.Core([]byte(in))
		s, f := erase.Strip([]byte(in))
		r, g := erase.Relabels([]byte(in), []string{"low", "no label"})
		if e != read || f != read || g != read || read != want || len(l)+len(s)+len(r) > 0 {
			t.Errorf("%q: %d %d %d, not %d", in, e, f, g, want)
		}
		if erase.Same([]byte(in), []byte(in)) || erase.Same(nil, []byte(in)) || erase.Same([]byte(in), nil) {
			t.Errorf("%q: the same", in)
		}
	}
	if s, err := erase.Strip(long[:api.MaxText]); err != api.OK || len(s) != api.MaxText-4 {
		t.Error(len(s), err)
	}
}

func TestRelabel(t *testing.T) {
	for _, c := range []struct {
		a     api.Ann
		label string
		want  api.Edit
	}{
		{api.Ann{Some: true, Label: "low", From: 12, To: 15}, "high", api.Edit{From: 12, To: 15, Text: "high"}},
		{api.Ann{Some: true, Lock: true, Label: "low", From: 12, To: 15}, "high", api.Edit{From: 12, To: 15, Text: "high"}},
		{api.Ann{Some: true, Label: "low", From: 12, To: 15}, "low", api.Edit{From: 12, To: 15, Text: "low"}},
		{api.Ann{From: 12, To: 12}, "high", api.Edit{From: 12, To: 12, Text: " @high"}},
		{api.Ann{}, "a", api.Edit{Text: " @a"}},
		{api.Ann{}, "", api.Edit{Text: " @"}},
		{api.Ann{Some: true}, "", api.Edit{}},
		{api.Ann{Lock: true, Label: "low", From: 3, To: 9}, "a", api.Edit{From: 3, To: 3, Text: " @a"}},
		{api.Ann{Some: true, From: -7, To: math.MinInt}, "no label\xff", api.Edit{From: -7, To: math.MinInt, Text: "no label\xff"}},
		{api.Ann{From: math.MaxInt, To: -1}, "if", api.Edit{From: math.MaxInt, To: math.MaxInt, Text: " @if"}},
	} {
		if got := erase.Relabel(c.a, c.label); got != c.want {
			t.Errorf("%+v, %q: %+v", c.a, c.label, got)
		}
	}
}

func TestRelabels(t *testing.T) {
	long := strings.Repeat("x", 24)
	for _, c := range []struct {
		in     string
		labels []string
		want   string
	}{
		{"", nil, ""}, {" # a\n", []string{}, " # a\n"},
		{"var a: int;", []string{"low"}, "var a: int @low;"}, {"var a: int;", []string{""}, "var a: int;"},
		{"var a: int  # b\n;", []string{"low"}, "var a: int @low  # b\n;"},
		{"var a: int@low;", []string{"high"}, "var a: int@high;"}, {"var a: int @= # b\n low ;", []string{long}, "var a: int @= # b\n " + long + " ;"},
		{"var a: int @low;", []string{"low"}, "var a: int @low;"}, {"var a: int @low;", []string{""}, "var a: int @low;"},
		{"var a: int @=low; var b: int @low; var c: int;", []string{"c", "", "a"}, "var a: int @=c; var b: int @low; var c: int @a;"},
		{"fn f(a:int,b:bool@x):int/{}{let c:int=declassify(a,@x);if(b){let d:int@y=1;}else{let e:int=1;}return 1;}var g:int@z;", []string{"l1", "l2", "l3", "l4", "l5", "l6", "l7"},
			"fn f(a:int @l1,b:bool@l2):int @l3/{}{let c:int @l4=declassify(a,@x);if(b){let d:int@l5=1;}else{let e:int @l6=1;}return 1;}var g:int@l7;"},
	} {
		out, err := erase.Relabels([]byte(c.in), c.labels)
		if err != api.OK || string(out) != c.want {
			t.Errorf("%q by %q: %q, %d", c.in, c.labels, out, err)
		}
	}
}

func TestRelabelsWrong(t *testing.T) {
	in := "var a: int @low; var b: bool;"
	for _, l := range [][]string{
		nil, {""}, {"a"}, {"", "", ""}, {"a", "b", "c"}, {"a", "if"}, {"int", ""}, {"", "declassify"}, {"1", ""}, {"", "a b"}, {" ", ""}, {"", " a"}, {"a ", "a"},
		{"@a", "a"}, {"a", "=a"}, {"a.b", "a"}, {"a", "\x00"}, {"a", "é"}, {"a#", ""}, {strings.Repeat("x", 25), "a"}, {"a", "a\n"}, {"a-b", "a"},
	} {
		if out, err := erase.Relabels([]byte(in), l); err != api.ErrArg || len(out) > 0 {
			t.Errorf("%q: %q, %d", l, out, err)
		}
	}
	if out, err := erase.Relabels(nil, []string{""}); err != api.ErrArg || len(out) > 0 {
		t.Errorf("%q, %d", out, err)
	}
}

// many is a file of so many variables, each with that annotation; they are as short as may be.
func many(n int, mark string) string { return strings.Repeat("var a:int"+mark+";", n) }

// TestManyEdits has as many edits as may be, and one more; what changes nothing is none.
func TestManyEdits(t *testing.T) {
	labels := func(n int, label string) []string { return slices.Repeat([]string{label}, n) }
	for _, c := range []struct {
		n      int
		mark   string
		labels []string
		err    api.Errno
	}{
		{512, "@x", labels(512, "y"), api.OK}, {513, "@x", labels(513, "y"), api.ErrLong}, {1200, "@x", labels(1200, "y"), api.ErrLong},
		{513, "@x", labels(513, "x"), api.OK}, {1200, "@x", labels(1200, ""), api.OK}, {1200, "", labels(1200, ""), api.OK},
		{513, "@x", append(labels(512, "y"), "x"), api.OK}, {513, "@x", append(labels(512, "y"), ""), api.OK}, {1024, "@x", append(labels(512, "x"), labels(512, "y")...), api.OK},
		{512, "", labels(512, "y"), api.OK}, {513, "", labels(513, "y"), api.ErrLong},
		{513, "@x", labels(512, "y"), api.ErrArg}, {513, "@x", append(labels(512, "y"), "if"), api.ErrArg}, {513, "@x", append([]string{"if"}, labels(512, "y")...), api.ErrArg},
	} {
		out, err := erase.Relabels([]byte(many(c.n, c.mark)), c.labels)
		want := ""
		if c.err == api.OK {
			for _, l := range c.labels {
				switch {
				case l == "":
					want += many(1, c.mark)
				case c.mark == "":
					want += many(1, " @"+l)
				default:
					want += many(1, "@"+l)
				}
			}
		}
		if err != c.err || string(out) != want {
			t.Errorf("%d %q: %d, %d bytes", c.n, c.mark, err, len(out))
		}
	}
}

// TestStripMany strips a file of more annotations than a text may have edits.
func TestStripMany(t *testing.T) {
	for _, n := range []int{1, 511, 512, 513, 1023, 1024, 1025, api.MaxText / len(many(1, "@x"))} {
		out, err := erase.Strip([]byte(many(n, "@x")))
		if err != api.OK || string(out) != many(n, "") {
			t.Errorf("%d: %d, %d bytes", n, err, len(out))
		}
		l, err := erase.Core([]byte(many(n, "@x")))
		if err != api.OK || !slices.Equal(l, slices.Repeat([]string{"var", "a", ":", "int", ";"}, n)) {
			t.Errorf("%d: %d, %d tokens", n, err, len(l))
		}
	}
	var in, want string
	for i := range 900 {
		if i%3 == 0 {
			in += many(1, "@l"+strconv.Itoa(i))
			want += many(1, "")
		}
		in, want = in+many(1, ""), want+many(1, "")
	}
	if out, err := erase.Strip([]byte(in)); err != api.OK || string(out) != want {
		t.Error(err)
	}
}

// TestLongAnswer relabels by labels that make the file longer than one may be that is read: the chapter names no error of that.
func TestLongAnswer(t *testing.T) {
	in := many(400, "") + strings.Repeat(" ", api.MaxText-len(many(400, "")))
	out, err := erase.Relabels([]byte(in), slices.Repeat([]string{"low"}, 400))
	if want := many(400, " @low") + in[len(many(400, "")):]; err != api.OK || string(out) != want {
		t.Error(err, len(out))
	}
}

// TestMemory looks whether a call changes what it is handed, or what lies behind it, and whether an answer is new memory.
func TestMemory(t *testing.T) {
	for _, text := range []string{"", "var a: int;", "var a: int @low;", "fn f(a: int): int @=low { return a; }"} {
		whole := []byte(text + "@high;")
		b := whole[:len(text)]
		m, _, _ := file.Parse(b)
		all := append(slices.Repeat([]string{""}, len(file.Marks(m))), "behind")
		labels := all[: len(all)-1 : len(all)]
		for _, label := range []string{"", "low", "high"} {
			for i := range labels {
				labels[i] = label
			}
			call := func() (l []string, s, r []byte) {
				l, _ = erase.Core(b)
				s, _ = erase.Strip(b)
				r, _ = erase.Relabels(b, labels)
				erase.Same(b, b)
				return l, s, r
			}
			l, s, r := call()
			oldL, oldS, oldR := slices.Clone(l), bytes.Clone(s), bytes.Clone(r)
			clear(l[:cap(l)])
			clear(s[:cap(s)])
			clear(r[:cap(r)])
			if string(whole) != text+"@high;" || all[len(all)-1] != "behind" || slices.ContainsFunc(labels, func(s string) bool { return s != label }) {
				t.Fatalf("%q: %q %q", text, whole, all)
			}
			l, s, r = call()
			if !slices.Equal(l, oldL) || !bytes.Equal(s, oldS) || !bytes.Equal(r, oldR) {
				t.Fatalf("%q: %q %q %q", text, l, s, r)
			}
			clear(whole[:len(text)])
			if !slices.Equal(l, oldL) || !bytes.Equal(s, oldS) || !bytes.Equal(r, oldR) {
				t.Fatalf("%q: the answer hangs on the bytes: %q %q %q", text, l, s, r)
			}
			copy(whole, text)
		}
	}
}
