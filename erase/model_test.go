package erase_test

import (
	"math/rand/v2"
	"slices"
	"strings"
	"testing"

	"blazon/api"
	"blazon/erase"
	"blazon/file"
)

// A part of a file that is written token by token: one that counts, or a place at which an annotation may stand. What stands ahead of it are blanks and notes; so is what stands between a sign and its label.
type part struct {
	ahead, text          string
	mark                 bool
	sign, between, label string
}

// A writer writes files, the same ones in each run.
type writer struct {
	*rand.Rand
	parts []part
}

func newWriter(seed uint64) *writer { return &writer{Rand: rand.New(rand.NewPCG(seed, 12))} }

func (w *writer) one(l ...string) string { return l[w.IntN(len(l))] }

func (w *writer) ident() string {
	return w.one("a", "b", "x", "low", "high", "int_1", "_", "Let", strings.Repeat("i", 24))
}

func (w *writer) gap() string {
	return w.one("", "", "", " ", "\n", "\t \r\n", "#\n", " # a: int @low; $\n ", "#@=x\n#@\n")
}

// add writes tokens; blanks stand between them where they would be another token without.
func (w *writer) add(tokens ...string) {
	for _, s := range tokens {
		p := part{ahead: w.gap(), text: s}
		if p.ahead == "" && w.grow(s) {
			p.ahead = " "
		}
		w.parts = append(w.parts, p)
	}
}

// grow tells whether a token would make the one ahead longer, or another one.
func (w *writer) grow(next string) bool {
	if len(w.parts) == 0 {
		return false
	}
	last := w.parts[len(w.parts)-1]
	all := last.text + last.label
	inWord := func(c byte) bool { return c == '_' || '0' <= c && c <= '9' || 'a' <= c|0x20 && c|0x20 <= 'z' }
	return all != "" && (inWord(all[len(all)-1]) && inWord(next[0]) || all == "=" && next[0] == '=')
}

// mark writes a place for an annotation, and often one.
func (w *writer) mark() {
	p := part{mark: true}
	if w.IntN(3) > 0 {
		p = part{ahead: w.gap(), mark: true, sign: w.one("@", "@="), between: w.gap(), label: w.ident()}
	}
	w.parts = append(w.parts, p)
}

func (w *writer) typed() {
	w.add(w.ident(), ":", w.one("int", "bool"))
	w.mark()
}

func (w *writer) expr(high int) {
	switch n := w.IntN(7); {
	case n == 0:
		w.add(w.one("1", "0", "true", "false"))
	case n == 1 || high == 0:
		w.add(w.ident())
	case n == 2:
		w.add("-")
		w.expr(high - 1)
	case n == 3:
		w.add("(")
		w.expr(high - 1)
		w.add(w.one("+", "*", "==", "<", "&&", "||", "-"))
		w.expr(high - 1)
		w.add(")")
	case n == 4:
		w.add(w.ident(), ".", w.ident(), "(")
		w.expr(high - 1)
		w.add(",")
		w.expr(high - 1)
		w.add(")")
	default:
		w.add("declassify", "(")
		w.expr(high - 1)
		w.add(",", "@", w.ident(), ")")
	}
}

func (w *writer) block(deep int) {
	for range w.IntN(4) {
		w.stmt(deep)
	}
}

func (w *writer) stmt(deep int) {
	switch n := w.IntN(6); {
	case n == 0 || n > 3 && deep == 0:
		w.add("let")
		w.typed()
		w.add("=")
		w.expr(2)
		w.add(";")
	case n == 1:
		w.add(w.ident(), "=")
		w.expr(2)
		w.add(";")
	case n == 2:
		w.add("do", w.ident(), ";")
	case n == 3:
		w.add(w.ident(), "(", ")", ";")
	default:
		w.add([]string{"if", "while"}[n-4], "(")
		w.expr(1)
		w.add(")", "{")
		w.block(deep - 1)
		w.add("}")
		if n == 4 && w.IntN(2) == 0 {
			w.add("else", "{")
			w.block(deep - 1)
			w.add("}")
		}
	}
}

func (w *writer) function() {
	w.add("fn", w.ident(), "(")
	for i := range w.IntN(4) {
		if i > 0 {
			w.add(",")
		}
		w.typed()
	}
	w.add(")", ":", w.one("int", "bool"))
	w.mark()
	if w.IntN(2) == 0 {
		w.add("/", "{", w.ident(), ",", w.ident(), "}")
	}
	w.add("{")
	w.block(3)
	w.add("return")
	w.expr(2)
	w.add(";", "}")
}

// write writes a file of some items; those of which there may be one alone stand anywhere.
func (w *writer) write() {
	n := w.IntN(6)
	lattice, effects := w.IntN(8), w.IntN(8)
	for i := range n {
		if i == lattice {
			w.add("lattice", "{", w.ident(), "<", w.ident(), ";", w.ident(), ";", "}")
		}
		if i == effects {
			w.add("effects", "{", w.ident(), ";", "}")
		}
		switch w.IntN(4) {
		case 0:
			w.add("import", w.ident(), ";")
		case 1:
			w.add("var")
			w.typed()
			w.add(";")
		default:
			w.function()
		}
	}
	if n == 0 || w.IntN(2) == 0 {
		w.parts = append(w.parts, part{ahead: w.one("", " ", "\n", "#", "# @low")})
	}
}

// text is the file, in which an annotation is as write says.
func (w *writer) text(write func(p part) string) string {
	out := ""
	for _, p := range w.parts {
		out += p.ahead + p.text
		if p.mark {
			out += write(p)
		}
	}
	return out
}

func asItIs(p part) string { return p.sign + p.between + p.label }

func nothing(part) string { return "" }

func (w *writer) core() []string {
	var l []string
	for _, p := range w.parts {
		if p.text != "" {
			l = append(l, p.text)
		}
	}
	return l
}

func (w *writer) marks() []part {
	return slices.DeleteFunc(slices.Clone(w.parts), func(p part) bool { return !p.mark })
}

// labels are such as a file may be relabelled by: none, the old one, another one.
func (w *writer) labels() []string {
	var l []string
	for _, p := range w.marks() {
		l = append(l, w.one("", p.label, w.ident(), w.ident()))
	}
	return l
}

func (w *writer) relabelled(labels []string) string {
	return w.text(func(p part) string {
		label := labels[0]
		labels = labels[1:]
		switch {
		case label == "":
			return asItIs(p)
		case p.sign == "":
			return " @" + label
		}
		return p.sign + p.between + label
	})
}

func core(t *testing.T, in string) []string {
	t.Helper()
	l, err := erase.Core([]byte(in))
	if err != api.OK {
		t.Fatalf("%q: %d", in, err)
	}
	return l
}

// TestWritten holds all calls against files that were written part by part.
func TestWritten(t *testing.T) {
	for seed := range uint64(2500) {
		w := newWriter(seed)
		w.write()
		in, want := w.text(asItIs), w.text(nothing)
		if len(in) > api.MaxText-2000 {
			continue
		}
		if got := core(t, in); !slices.Equal(got, w.core()) {
			t.Fatalf("%q: %q, not %q", in, got, w.core())
		}
		out, err := erase.Strip([]byte(in))
		if err != api.OK || string(out) != want {
			t.Fatalf("%q: %q, %d, not %q", in, out, err, want)
		}
		stripped(t, in, string(out))
		labels := w.labels()
		out, err = erase.Relabels([]byte(in), labels)
		if err != api.OK || string(out) != w.relabelled(labels) {
			t.Fatalf("%q by %q: %q, %d, not %q", in, labels, out, err, w.relabelled(labels))
		}
		relabelled(t, w, in, labels, string(out))
	}
}

// stripped holds what was stripped against P12.3.
func stripped(t *testing.T, in, out string) {
	t.Helper()
	m, _, err := file.Parse([]byte(out))
	if err != api.OK || slices.ContainsFunc(file.Marks(m), func(a api.Ann) bool { return a.Some }) {
		t.Fatalf("%q: %q has annotations, %d", in, out, err)
	}
	again, err := erase.Strip([]byte(out))
	if err != api.OK || string(again) != out || !erase.Same([]byte(in), []byte(out)) || !slices.Equal(core(t, in), core(t, out)) {
		t.Fatalf("%q: %q, and then %q, %d", in, out, again, err)
	}
}

// relabelled holds what was relabelled against P12.3: its labels; its core; and, changed back, the file.
func relabelled(t *testing.T, w *writer, in string, labels []string, out string) {
	t.Helper()
	m, _, err := file.Parse([]byte(out))
	marks := file.Marks(m)
	if err != api.OK || len(marks) != len(labels) || !erase.Same([]byte(in), []byte(out)) {
		t.Fatalf("%q: %q: %d, %d annotations", in, out, err, len(marks))
	}
	var old []string
	added := false
	for i, p := range w.marks() {
		want := labels[i]
		if want == "" {
			want = p.label
		}
		if marks[i].Label != want || marks[i].Lock != (p.sign == "@=") || marks[i].Some != (want != "") {
			t.Fatalf("%q: %q: %+v, not %q", in, out, marks[i], want)
		}
		old = append(old, p.label)
		added = added || p.label == "" && want != ""
	}
	back, err := erase.Relabels([]byte(out), old)
	if !added && (err != api.OK || string(back) != in) {
		t.Fatalf("%q: %q, and back %q, %d", in, out, back, err)
	}
}

// TestSameOfTwo holds Same of any two files against their cores.
func TestSameOfTwo(t *testing.T) {
	var l []string
	for seed := range uint64(400) {
		w := newWriter(seed)
		w.write()
		if w.parts = w.parts[:min(len(w.parts), 12)]; w.text(asItIs) != "" {
			l = append(l, w.text(asItIs))
		}
	}
	same := 0
	for i, a := range l {
		for _, b := range l[i:] {
			x, e := erase.Core([]byte(a))
			y, f := erase.Core([]byte(b))
			want := e == api.OK && f == api.OK && slices.Equal(x, y)
			if erase.Same([]byte(a), []byte(b)) != want || erase.Same([]byte(b), []byte(a)) != want {
				t.Fatalf("%q, %q: not %v", a, b, want)
			}
			if want {
				same++
			}
		}
	}
	if same < 20 {
		t.Fatal(same)
	}
}

// TestAnyBytes cuts files short and changes bytes of them: the error is that of reading, and where there is none P12.3 holds.
func TestAnyBytes(t *testing.T) {
	read := 0
	for seed := range uint64(7000) {
		w := newWriter(seed)
		w.write()
		b := []byte(w.text(asItIs))
		for range w.IntN(3) {
			if len(b) > 0 {
				b[w.IntN(len(b))] = "@=; \n#a,){\x00"[w.IntN(11)]
			}
		}
		if w.IntN(2) == 0 {
			b = b[:w.IntN(len(b)+1)]
		}
		m, _, want := file.Parse(b)
		l, e := erase.Core(b)
		s, f := erase.Strip(b)
		r, g := erase.Relabels(b, make([]string, len(file.Marks(m))))
		if e != want || f != want || g != want || erase.Same(b, b) != (want == api.OK) {
			t.Fatalf("%q: %d %d %d, not %d", b, e, f, g, want)
		}
		if want != api.OK {
			if len(l)+len(s)+len(r) > 0 {
				t.Fatalf("%q: %q %q %q beside %d", b, l, s, r, want)
			}
			continue
		}
		read++
		stripped(t, string(b), string(s))
		if string(r) != string(b) {
			t.Fatalf("%q: %q", b, r)
		}
	}
	if read < 1000 {
		t.Fatal(read)
	}
}
