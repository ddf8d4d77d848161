package lex_test

import (
	"bytes"
	"math"
	"math/rand/v2"
	"slices"
	"strings"
	"testing"

	"blazon/api"
	"blazon/lex"
)

// A writer writes texts, the same ones in each run.
type writer struct{ *rand.Rand }

func newWriter(seed uint64) writer { return writer{rand.New(rand.NewPCG(seed, 0))} }

// text is made of the bytes of one of the alphabets.
func (w writer) text(n int) []byte {
	from := alphabets[w.IntN(len(alphabets))]
	b := make([]byte, n)
	for i := range b {
		b[i] = from[w.IntN(len(from))]
	}
	return b
}

var alphabets = []string{
	"=@&|", "=!<@:", "aZ_09 ", "#\n \t\ra", "a_1=@& \n#|", "\x00\x7f\x80\xc3\xa9\xffa ", allBytes(),
	"ab01_ \t\r\n#=&|@(){},;:.<+-*!/$?\"'\\[]>%^~`\x0b\x0c",
}

func allBytes() string {
	b := make([]byte, 256)
	for i := range b {
		b[i] = byte(i)
	}
	return string(b)
}

const (
	letters = "abcdefghijklmnopqrstuvwxyzABCDEFGHIJKLMNOPQRSTUVWXYZ_"
	digits  = "0123456789"
	signs   = "== && || @= ( ) { } , ; : . < + - * ! = @ /"
	words   = "import lattice effects var fn let if else while return do true false int bool declassify"
)

// only tells whether a text has at least one byte, and none but these.
func only(s, these string) bool {
	for i := range len(s) {
		if strings.IndexByte(these, s[i]) < 0 {
			return false
		}
	}
	return s != ""
}

// whole tells whether a text is a token, whether or not a longer one begins with it, and of which kind.
func whole(s string) (kind int, ok bool) {
	switch {
	case only(s, " \t\n\r"):
		return api.TokBlank, true
	case strings.HasPrefix(s, "#") && !strings.Contains(s, "\n"):
		return api.TokNote, true
	case s != "" && only(s[:1], letters) && only(s, letters+digits):
		return api.TokWord, true
	case only(s, digits):
		return api.TokNumber, true
	case slices.Contains(strings.Fields(signs), s):
		return api.TokSign, true
	}
	return 0, false
}

// longest tells a text's tokens as the chapter does: at each place all lengths are tried, from the longest on.
func longest(s string) []api.Tok {
	var l []api.Tok
	for at := 0; at < len(s); {
		t := api.Tok{Kind: api.TokBad, At: at, End: at + 1}
		for end := len(s); end > at; end-- {
			if kind, ok := whole(s[at:end]); ok {
				t = api.Tok{Kind: kind, At: at, End: end}
				break
			}
		}
		l = append(l, t)
		at = t.End
	}
	return l
}

var kindNames = []string{"blank", "note", "word", "number", "sign", "bad"}

// told is a text's tokens, as words that a test can be written with.
func told(s string) string {
	var l []string
	for _, t := range lex.All([]byte(s)) {
		l = append(l, kindNames[t.Kind]+" "+lex.Text([]byte(s), t))
	}
	return strings.Join(l, "|")
}

func TestKindsAreGiven(t *testing.T) {
	want := []int{0, 1, 2, 3, 4, 5}
	if got := []int{api.TokBlank, api.TokNote, api.TokWord, api.TokNumber, api.TokSign, api.TokBad}; !slices.Equal(got, want) {
		t.Fatal(got)
	}
}

func TestAllKnownTexts(t *testing.T) {
	for _, c := range []struct{ s, want string }{
		{"", ""},
		{"a@=b#c", "word a|sign @=|word b|note #c"},
		{"$", "bad $"},
		{" \t\r\n\n x", "blank  \t\r\n\n |word x"},
		{"#", "note #"},
		{"##", "note ##"},
		{"#\n", "note #|blank \n"},
		{"#\n#", "note #|blank \n|note #"},
		{"# a = $ \t\r\nb", "note # a = $ \t\r|blank \n|word b"},
		{"#\x00\xff\x80$", "note #\x00\xff\x80$"},
		{"\n# x", "blank \n|note # x"},
		{"_", "word _"},
		{"__a_1", "word __a_1"},
		{"a1", "word a1"},
		{"1a", "number 1|word a"},
		{"1_", "number 1|word _"},
		{"0012", "number 0012"},
		{"-12", "sign -|number 12"},
		{"1.5", "number 1|sign .|number 5"},
		{"a.b", "word a|sign .|word b"},
		{"fn fnx true1", "word fn|blank  |word fnx|blank  |word true1"},
		{"a-b", "word a|sign -|word b"},
		{"=", "sign ="},
		{"==", "sign =="},
		{"===", "sign ==|sign ="},
		{"====", "sign ==|sign =="},
		{"= =", "sign =|blank  |sign ="},
		{"@", "sign @"},
		{"@@", "sign @|sign @"},
		{"@=", "sign @="},
		{"@==", "sign @=|sign ="},
		{"@===", "sign @=|sign =="},
		{"=@=", "sign =|sign @="},
		{"==@=", "sign ==|sign @="},
		{"&", "bad &"},
		{"&&", "sign &&"},
		{"&&&", "sign &&|bad &"},
		{"& &", "bad &|blank  |bad &"},
		{"&|", "bad &|bad |"},
		{"|&&|", "bad ||sign &&|bad |"},
		{"|||", "sign |||bad |"},
		{"&=", "bad &|sign ="},
		{"|=", "bad ||sign ="},
		{"!=", "sign !|sign ="},
		{"<=", "sign <|sign ="},
		{">=", "bad >|sign ="},
		{":=", "sign :|sign ="},
		{"//", "sign /|sign /"},
		{"/{}", "sign /|sign {|sign }"},
		{"((", "sign (|sign ("},
		{"\x0b\x0c\x00\x7f", "bad \x0b|bad \x0c|bad \x00|bad \x7f"},
		{"é", "bad \xc3|bad \xa9"},
		{"a\xc2\xa0b", "word a|bad \xc2|bad \xa0|word b"},
		{"\ufeff", "bad \xef|bad \xbb|bad \xbf"},
		{"\"a\"", "bad \"|word a|bad \""},
		{strings.Repeat("w", 25), "word " + strings.Repeat("w", 25)},
		{strings.Repeat("9", 40), "number " + strings.Repeat("9", 40)},
	} {
		if got := told(c.s); got != c.want {
			t.Errorf("%q: %q, want %q", c.s, got, c.want)
		}
	}
}

func TestAllTellsPlaces(t *testing.T) {
	want := []api.Tok{
		{Kind: api.TokWord, At: 0, End: 2}, {Kind: api.TokBlank, At: 2, End: 4}, {Kind: api.TokSign, At: 4, End: 6},
		{Kind: api.TokNumber, At: 6, End: 9}, {Kind: api.TokBad, At: 9, End: 10}, {Kind: api.TokNote, At: 10, End: 12},
		{Kind: api.TokBlank, At: 12, End: 13}, {Kind: api.TokSign, At: 13, End: 14},
	}
	if got := lex.All([]byte("ab\t @=123?#x\n;")); !slices.Equal(got, want) {
		t.Fatal(got)
	}
	if got := lex.All(nil); len(got) != 0 {
		t.Fatal(got)
	}
}

// Each sign of the chapter is one token, alone and between others; what it ends with begins no longer one.
func TestEachSign(t *testing.T) {
	for _, s := range strings.Fields(signs) {
		if got := told(s); got != "sign "+s {
			t.Errorf("%q: %q", s, got)
		}
		if got, want := told("a"+s+"1"), "word a|sign "+s+"|number 1"; got != want {
			t.Errorf("%q: %q, want %q", s, got, want)
		}
	}
}

// All texts of one byte, and of two.
func TestAllShortTexts(t *testing.T) {
	for i := range 1 << 16 {
		for _, b := range [][]byte{{byte(i)}, {byte(i), byte(i >> 8)}} {
			if got, want := lex.All(b), longest(string(b)); !slices.Equal(got, want) {
				t.Fatalf("%q: %v, want %v", b, got, want)
			}
		}
	}
}

// All texts of up to five of these bytes, which begin tokens of each kind, and signs of two bytes.
func TestAllTextsOfAFewBytes(t *testing.T) {
	const few = "a1 #\n=@&"
	for n := range 6 {
		count := 1
		for range n {
			count *= len(few)
		}
		b := make([]byte, n)
		for i := range count {
			for at := range b {
				b[at] = few[i%len(few)]
				i /= len(few)
			}
			if got, want := lex.All(b), longest(string(b)); !slices.Equal(got, want) {
				t.Fatalf("%q: %v, want %v", b, got, want)
			}
		}
	}
}

func TestAllAgainstLongest(t *testing.T) {
	w := newWriter(1)
	for n := range 6000 {
		b := w.text(n % 60)
		if got, want := lex.All(b), longest(string(b)); !slices.Equal(got, want) {
			t.Fatalf("%q: %v, want %v", b, got, want)
		}
	}
}

// P6.3: all tokens make up the text, and each of them is one by itself.
func TestTokensMakeUpTheText(t *testing.T) {
	w := newWriter(3)
	for n := range 4000 {
		b := w.text(n % 300)
		at, all := 0, ""
		for _, x := range lex.All(b) {
			if x.At != at || x.End <= x.At {
				t.Fatalf("%q: a token at %d, to %d, where the one ahead ends at %d", b, x.At, x.End, at)
			}
			at = x.End
			s := lex.Text(b, x)
			all += s
			want := []api.Tok{{Kind: x.Kind, End: len(s)}}
			if got := lex.All([]byte(s)); !slices.Equal(got, want) {
				t.Fatalf("%q alone: %v, want %v", s, got, want)
			}
		}
		if all != string(b) {
			t.Fatalf("%q: the tokens say %q", b, all)
		}
	}
}

func TestLongTokens(t *testing.T) {
	const n = 1 << 20
	for kind, one := range []string{" ", "#", "a", "7"} {
		b := bytes.Repeat([]byte(one), n)
		if got := lex.All(b); !slices.Equal(got, []api.Tok{{Kind: kind, End: n}}) {
			t.Errorf("%s: %d tokens", kindNames[kind], len(got))
		}
	}
	if got := lex.All(bytes.Repeat([]byte("$"), n)); len(got) != n || got[n-1] != (api.Tok{Kind: api.TokBad, At: n - 1, End: n}) {
		t.Errorf("bad: %d tokens", len(got))
	}
}

func TestAllKeepsItsText(t *testing.T) {
	behind := []byte("ab #=@= 1")
	b := behind[:2]
	got := lex.All(b)
	if !slices.Equal(got, []api.Tok{{Kind: api.TokWord, End: 2}}) || string(behind) != "ab #=@= 1" {
		t.Fatalf("%v %q", got, behind)
	}
	for _, c := range []struct{ whole, want string }{{"==", "sign ="}, {"@=", "sign @"}, {"&&", "bad &"}, {"a1", "word a"}} {
		if got := lex.All([]byte(c.whole)[:1]); len(got) != 1 || kindNames[got[0].Kind]+" "+c.whole[:got[0].End] != c.want {
			t.Errorf("the first byte of %q: %v", c.whole, got)
		}
	}
	got[0] = api.Tok{Kind: api.TokBad}
	if again := lex.All(b); !slices.Equal(again, []api.Tok{{Kind: api.TokWord, End: 2}}) {
		t.Fatal(again)
	}
}

func TestLive(t *testing.T) {
	b := []byte(" a #note\n\t@= $ 12#\n(# b")
	var l []string
	for _, x := range lex.Live(lex.All(b)) {
		l = append(l, lex.Text(b, x))
	}
	if got := strings.Join(l, " "); got != "a @= $ 12 (" {
		t.Fatal(got)
	}
	for _, s := range []string{"", " ", "#", " #\n "} {
		if got := lex.Live(lex.All([]byte(s))); len(got) != 0 {
			t.Errorf("%q: %v", s, got)
		}
	}
	if got := lex.Live(nil); len(got) != 0 {
		t.Error(got)
	}
}

// Live goes by kinds alone, in the order in which the tokens come: the list may be any.
func TestLiveOfAnyList(t *testing.T) {
	l := []api.Tok{
		{Kind: api.TokSign, At: 9, End: 3}, {Kind: api.TokNote, At: 1, End: 2}, {Kind: -1, At: -5}, {Kind: api.TokBlank},
		{Kind: api.TokBad, At: math.MaxInt, End: math.MinInt}, {Kind: 6}, {Kind: api.TokWord}, {Kind: api.TokWord}, {Kind: api.TokNumber}, {Kind: api.TokNote},
	}
	old := slices.Clone(l)
	want := []api.Tok{l[0], l[2], l[4], l[5], l[6], l[7], l[8]}
	got := lex.Live(l)
	if !slices.Equal(got, want) || !slices.Equal(l, old) {
		t.Fatal(got, l)
	}
	clear(got[:cap(got)])
	if !slices.Equal(l, old) {
		t.Fatal("the answer shares memory with the list", l)
	}
	all := l[6:9:9]
	if got := lex.Live(all); !slices.Equal(got, all) || &got[0] == &all[0] {
		t.Fatal("of a list all of which counts", got)
	}
	if got := lex.Live(l[:2]); !slices.Equal(got, l[:1]) || !slices.Equal(l, old) {
		t.Fatal("of a list with more behind it", got, l)
	}
}

func TestBad(t *testing.T) {
	for _, c := range []struct {
		s  string
		at int
	}{
		{"", -1}, {"a = b; # $", -1}, {"$", 0}, {"a $ ?", 2}, {"a & b && c", 2}, {"#$\n\x00", 3}, {"a||b|", 4}, {"é", 0},
	} {
		got, ok := lex.Bad(lex.All([]byte(c.s)))
		want := api.Tok{}
		if c.at >= 0 {
			want = api.Tok{Kind: api.TokBad, At: c.at, End: c.at + 1}
		}
		if got != want || ok != (c.at >= 0) {
			t.Errorf("%q: %v %v, want %v", c.s, got, ok, want)
		}
	}
	l := []api.Tok{{Kind: 6, At: 1}, {Kind: -5}, {Kind: api.TokBad, At: 8, End: 2}, {Kind: api.TokBad, At: 1, End: 2}}
	if got, ok := lex.Bad(l); !ok || got != l[2] {
		t.Error(got, ok)
	}
	if got, ok := lex.Bad(l[:2]); ok || got != (api.Tok{}) {
		t.Error(got, ok)
	}
	if got, ok := lex.Bad(nil); ok || got != (api.Tok{}) {
		t.Error(got, ok)
	}
}

func TestText(t *testing.T) {
	b := []byte("abcdef")[:4]
	for _, c := range []struct {
		at, end int
		want    string
	}{
		{0, 0, ""}, {0, 1, "a"}, {0, 4, "abcd"}, {1, 3, "bc"}, {3, 4, "d"}, {2, 2, ""}, {4, 4, ""},
		{0, 5, ""}, {4, 5, ""}, {5, 5, ""}, {5, 6, ""}, {-1, 2, ""}, {-1, -1, ""}, {3, 1, ""}, {4, 3, ""}, {1, -1, ""},
		{math.MinInt, math.MaxInt, ""}, {math.MaxInt, math.MinInt, ""}, {math.MinInt, 4, ""}, {0, math.MaxInt, ""}, {math.MaxInt, math.MaxInt, ""}, {math.MinInt, math.MinInt, ""},
	} {
		for _, kind := range []int{api.TokBlank, api.TokBad, -1, 99} {
			if got := lex.Text(b, api.Tok{Kind: kind, At: c.at, End: c.end}); got != c.want {
				t.Errorf("from %d to %d: %q, want %q", c.at, c.end, got, c.want)
			}
		}
	}
	if got := lex.Text(nil, api.Tok{}); got != "" {
		t.Errorf("%q", got)
	}
	if got := lex.Text(nil, api.Tok{End: 1}); got != "" {
		t.Errorf("%q", got)
	}
	s := lex.Text(b, api.Tok{End: 2})
	clear(b)
	if s != "ab" {
		t.Errorf("%q, once the bytes have changed", s)
	}
}

func TestKeyword(t *testing.T) {
	for _, s := range strings.Fields(words) {
		if !lex.Keyword(s) || lex.Ident(s) {
			t.Errorf("%q is one, and no identifier", s)
		}
		for _, near := range []string{s + "s", s + " ", " " + s, "_" + s, s[:len(s)-1], s[1:], strings.ToUpper(s), strings.ToUpper(s[:1]) + s[1:], s + "\x00"} {
			if lex.Keyword(near) {
				t.Errorf("%q is none", near)
			}
		}
	}
	for _, s := range []string{"", " ", "a", "net", "low", "main", "for", "declassify(", "import var", "@", "é", "truefalse", strings.Repeat("if", 99)} {
		if lex.Keyword(s) {
			t.Errorf("%q is none", s)
		}
	}
}

func TestIdent(t *testing.T) {
	for s, want := range map[string]bool{
		"a": true, "Z": true, "_": true, "__": true, "a1": true, "_1": true, "a_b_9": true, "If": true, "ifs": true, "fn1": true, "_fn": true, "TRUE": true,
		"": false, "1": false, "1a": false, "9_": false, "a b": false, " a": false, "a ": false, "a\n": false, "a.b": false, "a-b": false, "a@": false,
		"#": false, "#a": false, "a#": false, "@a": false, "$": false, "a$": false, "==": false, "é": false, "aé": false, "a\x00": false, "\x00": false, "\xff": false,
		"if": false, "declassify": false, "int": false,
		strings.Repeat("a", 23): true, strings.Repeat("a", 24): true, strings.Repeat("a", 25): false, strings.Repeat("_", 24): true, strings.Repeat("_", 99999): false,
		"a" + strings.Repeat("9", 23): true, "a" + strings.Repeat("9", 24): false, strings.Repeat("9", 24): false, strings.Repeat("é", 12): false,
	} {
		if got := lex.Ident(s); got != want {
			t.Errorf("%q: %v", s, got)
		}
	}
}

// All words of one byte, and of two, and any others, against what the chapter says.
func TestIdentAgainstWords(t *testing.T) {
	want := func(s string) bool {
		kind, ok := whole(s)
		return ok && kind == api.TokWord && len(s) <= 24 && !slices.Contains(strings.Fields(words), s)
	}
	for i := range 1 << 16 {
		for _, s := range []string{string([]byte{byte(i)}), string([]byte{byte(i), byte(i >> 8)})} {
			if got := lex.Ident(s); got != want(s) {
				t.Fatalf("%q: %v", s, got)
			}
		}
	}
	w := newWriter(5)
	for n := range 4000 {
		if s := string(w.text(n % 30)); lex.Ident(s) != want(s) {
			t.Fatalf("%q: %v", s, lex.Ident(s))
		}
	}
}

func TestLine(t *testing.T) {
	for _, c := range []struct {
		s                string
		at, line, column int
	}{
		{"", 0, 1, 1}, {"", 1, 1, 1}, {"", -1, 1, 1},
		{"ab\nc", 0, 1, 1}, {"ab\nc", 1, 1, 2}, {"ab\nc", 2, 1, 3}, {"ab\nc", 3, 2, 1}, {"ab\nc", 4, 2, 2},
		{"ab\nc", 5, 2, 2}, {"ab\nc", math.MaxInt, 2, 2}, {"ab\nc", -1, 1, 1}, {"ab\nc", math.MinInt, 1, 1},
		{"\n", 0, 1, 1}, {"\n", 1, 2, 1}, {"\n\n\n", 2, 3, 1}, {"\n\n\n", 3, 4, 1}, {"\n\n\n", 4, 4, 1},
		{"a\r\nb", 3, 2, 1}, {"a\rb", 3, 1, 4}, {"é\té", 5, 1, 6}, {"# a\n# b", 6, 2, 3},
	} {
		if line, column := lex.Line([]byte(c.s), c.at); line != c.line || column != c.column {
			t.Errorf("%q at %d: %d, %d, want %d, %d", c.s, c.at, line, column, c.line, c.column)
		}
	}
	if line, column := lex.Line(nil, 7); line != 1 || column != 1 {
		t.Error(line, column)
	}
	b := []byte("a\nb\nc")[:2]
	if line, column := lex.Line(b, 5); line != 2 || column != 1 {
		t.Error("what stands behind the length counts", line, column)
	}
}

// Gone through byte by byte, as a reader does.
func TestLineByLine(t *testing.T) {
	w := newWriter(7)
	for n := range 300 {
		b := w.text(n)
		line, column := 1, 1
		for at := range len(b) + 1 {
			if gotLine, gotColumn := lex.Line(b, at); gotLine != line || gotColumn != column {
				t.Fatalf("%q at %d: %d, %d, want %d, %d", b, at, gotLine, gotColumn, line, column)
			}
			if at < len(b) && b[at] == '\n' {
				line, column = line+1, 1
			} else {
				column++
			}
		}
	}
}

// R4: no call changes what it is handed.
func TestTextsStay(t *testing.T) {
	w := newWriter(9)
	for n := range 200 {
		b := w.text(n)
		old := string(b)
		l := lex.All(b)
		oldTokens := slices.Clone(l)
		lex.Live(l)
		lex.Bad(l)
		for _, x := range l {
			lex.Text(b, x)
			lex.Line(b, x.At)
		}
		if string(b) != old || !slices.Equal(l, oldTokens) {
			t.Fatalf("%q was changed", old)
		}
	}
}
