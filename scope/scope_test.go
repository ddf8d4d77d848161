package scope_test

import (
	"math"
	"slices"
	"strconv"
	"strings"
	"testing"

	"blazon/api"
	"blazon/file"
	"blazon/scope"
)

// read is what files say.
func read(t *testing.T, texts ...string) []api.Module {
	t.Helper()
	var l []api.Module
	for _, s := range texts {
		m, at, e := file.Parse([]byte(s))
		if e != api.OK {
			t.Fatalf("%s: %d at %d", s, e, at)
		}
		l = append(l, m)
	}
	return l
}

// made is the scope of files, whose names are those of a text.
func made(t *testing.T, names string, texts ...string) *scope.Scope {
	t.Helper()
	s, file, at, e := scope.New(strings.Fields(names), read(t, texts...))
	if s == nil || file != 0 || at != 0 || e != api.OK {
		t.Fatalf("%s: %d in %d at %d", names, e, file, at)
	}
	return s
}

// numbered are so many names.
func numbered(n int) []string {
	var l []string
	for i := range n {
		l = append(l, "m"+strconv.Itoa(i))
	}
	return l
}

// withLattice are so many modules, the first of which has a lattice.
func withLattice(n int) []api.Module {
	l := make([]api.Module, n)
	if n > 0 {
		l[0].HasLattice = true
	}
	return l
}

func imports(names ...string) []api.Name {
	var l []api.Name
	for i, n := range names {
		l = append(l, api.Name{Name: n, At: 100 + i})
	}
	return l
}

func TestExamples(t *testing.T) {
	s := made(t, "a b", "import b;", "lattice {}")
	if l := s.Order(); !slices.Equal(l, []int{1, 0}) {
		t.Error(l)
	}
	s, file, at, e := scope.New([]string{"a", "b"}, read(t, "import b;", "lattice {} import a;"))
	if s != nil || file != 0 || at != 7 || e != api.ErrCycle {
		t.Error(file, at, e)
	}
}

// TestNames asks for each name in each module, and for what is none there.
func TestNames(t *testing.T) {
	s := made(t, "main lib base",
		"import lib; import base; var x: int; var y: bool; fn f(x1: int): int { let l: int = 1; return 1; }",
		"import base; fn g(): int { return 1; } fn x(): int { return 1; } var z: int;",
		"lattice { a < b; } effects { e; } var x: int; var main: int; fn lib(): int { return 1; } fn f(): int { return 1; } fn base(): int { return 1; }")
	vars := map[string]string{
		"0 x": "0 0", "0 y": "0 1", "0 lib.z": "1 0", "0 base.x": "2 0", "0 base.main": "2 1",
		"1 z": "1 0", "1 base.x": "2 0", "1 base.main": "2 1",
		"2 x": "2 0", "2 main": "2 1",
	}
	fns := map[string]string{
		"0 f": "0 0", "0 lib.g": "1 0", "0 lib.x": "1 1", "0 base.lib": "2 0", "0 base.f": "2 1", "0 base.base": "2 2",
		"1 g": "1 0", "1 x": "1 1", "1 base.lib": "2 0", "1 base.f": "2 1", "1 base.base": "2 2",
		"2 lib": "2 0", "2 f": "2 1", "2 base": "2 2",
	}
	names := strings.Fields("x y z f g a b e l x1 main lib base Main X if . .. .x x. main. lib. base. ..x x..")
	for _, m := range []string{"main", "lib", "base", "other", "x", "", "lib.base", "base.lib", "Lib"} {
		for _, n := range []string{"x", "y", "z", "f", "g", "main", "lib", "base", "a", ""} {
			names = append(names, m+"."+n, " "+m+"."+n, m+". "+n, m+"."+n+" ", m+".."+n, m+"."+n+".", m+"."+n+".x")
		}
	}
	for _, name := range append(names, "", "\x00", "\xff", strings.Repeat("x", 1000)) {
		for _, file := range []int{0, 1, 2, 3, -1, 4, 63, 64, 1 << 32, math.MaxInt, math.MinInt} {
			key := strconv.Itoa(file) + " " + name
			if got := told(s.Var(file, name)); got != vars[key] {
				t.Errorf("variable %q: %q, not %q", key, got, vars[key])
			}
			if got := told(s.Fn(file, name)); got != fns[key] {
				t.Errorf("function %q: %q, not %q", key, got, fns[key])
			}
		}
	}
}

// told is where a thing is, as a text: without one it is empty, if both numbers are 0.
func told(in, index int, ok bool) string {
	s := strconv.Itoa(in) + " " + strconv.Itoa(index)
	switch {
	case !ok && s == "0 0":
		return ""
	case !ok:
		return "no " + s
	}
	return s
}

// TestAnyNames has modules that weren't read, whose variables and functions have names of any bytes.
func TestAnyNames(t *testing.T) {
	mods := []api.Module{
		{Imports: imports("b"), Vars: []api.Var{{Name: "b.x"}, {Name: ""}, {Name: "b."}}, Fns: []api.Fn{{Name: "b.g"}, {Name: "if"}, {Name: "b.y"}}},
		{HasLattice: true, Vars: []api.Var{{Name: "v"}, {Name: "x"}, {Name: "y"}, {Name: "v.w"}}, Fns: []api.Fn{{Name: "."}, {Name: "f"}, {Name: "g"}, {Name: ""}}},
	}
	s, _, _, e := scope.New([]string{"a", "b"}, mods)
	if e != api.OK {
		t.Fatal(e)
	}
	for name, want := range map[string]string{"b.x": "0 0", "": "0 1", "b.": "0 2", "b.v": "1 0", "b.y": "1 2", "b.v.w": "1 3", "b": "", "v.w": "", "v": "", "b.b.x": "", ".": ""} {
		if got := told(s.Var(0, name)); got != want {
			t.Errorf("variable %q: %q, not %q", name, got, want)
		}
	}
	for name, want := range map[string]string{"b.g": "0 0", "if": "0 1", "b.y": "0 2", "b..": "1 0", "b.f": "1 1", "b.": "1 3", "": "", "b": "", ".": "", "b.b.g": ""} {
		if got := told(s.Fn(0, name)); got != want {
			t.Errorf("function %q: %q, not %q", name, got, want)
		}
	}
}

// TestErrors: kind by kind, and of a kind module by module.
func TestErrors(t *testing.T) {
	const f = " fn f(): int { return 1; }"
	for _, c := range []struct {
		names    string
		texts    []string
		file, at int
		e        api.Errno
	}{
		// How many there are.
		{"", nil, 0, 0, api.ErrArg}, {"a", nil, 0, 0, api.ErrArg}, {"", []string{"lattice {}"}, 0, 0, api.ErrArg}, {"a b", []string{"lattice {}"}, 0, 0, api.ErrArg}, {"a", []string{"lattice {}", ""}, 0, 0, api.ErrArg},
		{"if b", []string{""}, 0, 0, api.ErrArg},
		// Their names.
		{"if", []string{"lattice {}"}, 0, 0, api.ErrName}, {"a if", []string{"lattice {}", ""}, 1, 0, api.ErrName}, {"a a", []string{"lattice {}", ""}, 1, 0, api.ErrThere}, {"a b a", []string{"lattice {}", "", ""}, 2, 0, api.ErrThere},
		{"a a if", []string{"", "", ""}, 1, 0, api.ErrThere}, {"a if a", []string{"", "", ""}, 1, 0, api.ErrName}, {"if if", []string{"", ""}, 0, 0, api.ErrName}, {"a b b a", []string{"", "", "", ""}, 2, 0, api.ErrThere}, {"a a a", []string{"", "", ""}, 1, 0, api.ErrThere},
		{"a 1", []string{"import c;", ""}, 1, 0, api.ErrName}, {"a b.c", []string{"", ""}, 1, 0, api.ErrName}, {"a A", []string{"lattice {}", ""}, 0, 0, api.OK},
		// What they import.
		{"a", []string{"lattice {} import b;"}, 0, 18, api.ErrName}, {"a b", []string{"lattice {}", "import a; import c;"}, 1, 17, api.ErrName}, {"a b", []string{"lattice {} import b; import b;", ""}, 0, 28, api.ErrThere},
		{"a b", []string{"lattice {} import b; import c; import b;", ""}, 0, 28, api.ErrName}, {"a b", []string{"lattice {} import b; import b; import c;", ""}, 0, 28, api.ErrThere}, {"a b c", []string{"import c;", "import c;", "lattice {}"}, 0, 0, api.OK},
		{"a b", []string{"import b; import b;", "import c;"}, 0, 17, api.ErrThere}, {"a b", []string{"import b;", "import c; import a; import a;"}, 1, 7, api.ErrName}, {"a b", []string{"import a; import B;", ""}, 0, 17, api.ErrName},
		{"a b", []string{"import a;", "import c;"}, 1, 7, api.ErrName}, {"a b", []string{"import b; import a; import b;", "import a;"}, 0, 27, api.ErrThere}, {"a b c", []string{"import b; import c; import c; import b;", "", ""}, 0, 27, api.ErrThere},
		// Round in a ring.
		{"a", []string{"lattice {} import a;"}, 0, 18, api.ErrCycle}, {"a b", []string{"import b;", "import a;"}, 0, 7, api.ErrCycle}, {"a b", []string{"lattice {}", "import a; import b;"}, 1, 17, api.ErrCycle},
		{"a b c", []string{"import b;", "import c;", "import b;"}, 1, 7, api.ErrCycle}, {"a b c", []string{"import b; import c;", "lattice {}", "import a;"}, 0, 17, api.ErrCycle}, {"a b c", []string{"import b;", "import c;", "import a;"}, 0, 7, api.ErrCycle},
		{"a b c d", []string{"import b; import c;", "import c; import d;", "lattice {}", "import b;"}, 1, 17, api.ErrCycle}, {"a b", []string{"import b;", "import b;"}, 1, 7, api.ErrCycle}, {"a b c", []string{"import c; import b; import a;", "import a;", ""}, 0, 17, api.ErrCycle},
		{"d c b a", []string{"import c;", "import b;", "import a;", "import b; import d;"}, 0, 7, api.ErrCycle}, {"a b", []string{"import b; var x: int; var x: int;", "import a; lattice {} effects {}"}, 0, 7, api.ErrCycle},
		// Their lattices and effects.
		{"a", []string{""}, 0, 0, api.ErrLattice}, {"a b", []string{"", "effects {}"}, 0, 0, api.ErrLattice}, {"a b", []string{"lattice {}", "lattice {}"}, 1, 0, api.ErrLattice}, {"a b c d", []string{"", "lattice {}", "", "lattice {}"}, 3, 0, api.ErrLattice},
		{"a b c", []string{"lattice {}", "lattice {}", "lattice {}"}, 1, 0, api.ErrLattice}, {"a b c", []string{"effects {}", "effects {}", ""}, 0, 0, api.ErrLattice}, {"a b c", []string{"effects { e; } lattice {}", "effects { e; }", "lattice {}"}, 2, 0, api.ErrLattice},
		{"a b", []string{"lattice {} effects {}", "effects {}"}, 1, 0, api.ErrThere}, {"a b c d", []string{"", "effects {}", "lattice {}", "effects {}"}, 3, 0, api.ErrThere}, {"a b c", []string{"effects {}", "effects {}", "effects {} lattice {}"}, 1, 0, api.ErrThere},
		{"a b", []string{"var x: int; var x: int;", "lattice {}"}, 0, 16, api.ErrThere}, {"a b", []string{"var x: int; var x: int;", "effects {}"}, 0, 0, api.ErrLattice}, {"a b", []string{"lattice {} effects {} var x: int; var x: int;", "effects {}"}, 1, 0, api.ErrThere},
		// What they call their things.
		{"a", []string{"lattice {} var x: int; var x: bool;"}, 0, 27, api.ErrThere}, {"a", []string{"lattice {} var x: int; var y: int; var y: int; var x: int;"}, 0, 39, api.ErrThere}, {"a", []string{"lattice {}" + f + f}, 0, 40, api.ErrThere},
		{"a", []string{"lattice {}" + f + " var f: int;"}, 0, 14, api.ErrThere}, {"a", []string{"lattice {}" + f + f + " var x: int; var x: int;"}, 0, 79, api.ErrThere}, {"a b", []string{f, "lattice {} var f: int;"}, 0, 0, api.OK},
		{"a b", []string{"lattice {} var x: int;", "import a; var x: int; var a: int;" + f}, 0, 0, api.OK}, {"a b", []string{"lattice {}" + f + f, "var x: int; var x: int;"}, 0, 40, api.ErrThere}, {"a b", []string{"lattice {} var x: int;", "var x: int; fn x(): int { return 1; }"}, 1, 15, api.ErrThere},
		{"a", []string{"lattice {} var a: int; fn f(a: int, a: int): int { let a: int = 1; return 1; } fn F(): int { return 1; } var A: int;"}, 0, 0, api.OK},
	} {
		s, file, at, e := scope.New(strings.Fields(c.names), read(t, c.texts...))
		if (s == nil) != (c.e != api.OK) || file != c.file || at != c.at || e != c.e {
			t.Errorf("%s, %q: %d in %d at %d, not %d in %d at %d", c.names, c.texts, e, file, at, c.e, c.file, c.at)
		}
	}
}

// TestWrongNames has each text that is no identifier, as a module's name and as what is imported.
func TestWrongNames(t *testing.T) {
	words := strings.Fields("import lattice effects var fn let if else while return do true false int bool declassify")
	for _, s := range append(words, "", " ", "a ", " a", "a b", "1", "1a", "a-b", "a.b", "@a", "a#", "#", "a\n", "\x00", "a\x00", "é", "\xff", strings.Repeat("x", 25), strings.Repeat("y", 1000)) {
		for ahead := range 3 {
			names := append(numbered(ahead), s, "m0")
			if x, file, at, e := scope.New(names, withLattice(ahead+2)); x != nil || file != ahead || at != 0 || e != api.ErrName {
				t.Errorf("%q: %d in %d at %d", names, e, file, at)
			}
			mods := withLattice(3)
			mods[ahead].Imports = imports("m2", s)
			if x, file, at, e := scope.New(numbered(3), mods); x != nil || file != ahead || at != 101 || e != api.ErrName {
				t.Errorf("%q in %d: %d in %d at %d", s, ahead, e, file, at)
			}
		}
	}
	long := strings.Repeat("x", 24)
	mods := withLattice(2)
	mods[0].Imports = imports(long)
	mods[1].Vars = []api.Var{{Name: "v"}}
	s, _, _, e := scope.New([]string{"a", long}, mods)
	if e != api.OK || told(s.Var(0, long+".v")) != "1 0" {
		t.Error(e)
	}
}

// TestPlaces: what stands somewhere is told as it is said, whatever number that is.
func TestPlaces(t *testing.T) {
	for _, at := range []int{0, -1, 1, 1 << 40, math.MinInt, math.MaxInt} {
		none := api.Name{Name: "z", At: at}
		self := api.Name{Name: "m1", At: at}
		for i, c := range []struct {
			m api.Module
			e api.Errno
		}{
			{api.Module{Imports: []api.Name{none}}, api.ErrName}, {api.Module{Imports: []api.Name{{Name: "m0"}, {Name: "m0", At: at}}}, api.ErrThere}, {api.Module{Imports: []api.Name{self}}, api.ErrCycle},
			{api.Module{Vars: []api.Var{{Name: "x", At: 5}, {Name: "x", At: at}}}, api.ErrThere}, {api.Module{Fns: []api.Fn{{Name: "x", At: 5}, {Name: "x", At: at}}}, api.ErrThere},
			{api.Module{Vars: []api.Var{{Name: "x", At: 5}}, Fns: []api.Fn{{Name: "y"}, {Name: "x", At: at}}}, api.ErrThere},
		} {
			if s, file, got, e := scope.New(numbered(2), []api.Module{{HasLattice: true}, c.m}); s != nil || file != 1 || got != at || e != c.e {
				t.Errorf("%d: %d in %d at %d, not at %d", i, e, file, got, at)
			}
		}
	}
}

// TestHas: a module has a lattice, or effects, if it says so, whatever they are.
func TestHas(t *testing.T) {
	pairs, effects := []api.Pair{{Low: "a", High: "b"}}, []api.Name{{Name: "e"}}
	if s, file, at, e := scope.New(numbered(1), []api.Module{{Lattice: pairs, Effects: effects}}); s != nil || file != 0 || at != 0 || e != api.ErrLattice {
		t.Error(file, at, e)
	}
	s, _, _, e := scope.New(numbered(4), []api.Module{{Lattice: pairs}, {Effects: effects}, {HasEffects: true}, {HasLattice: true}})
	if e != api.OK || s.Lattice() != 3 || s.Effects() != 2 {
		t.Error(e, s.Lattice(), s.Effects())
	}
	for n := 1; n <= 4; n++ {
		for which := range n {
			mods := make([]api.Module, n)
			mods[which].HasLattice = true
			s, _, _, e := scope.New(numbered(n), mods)
			if e != api.OK || s.Lattice() != which || s.Effects() != -1 || s.Len() != n {
				t.Error(n, which, e, s.Lattice(), s.Effects())
			}
			mods[n-1-which].HasEffects = true
			s, _, _, e = scope.New(numbered(n), mods)
			if e != api.OK || s.Lattice() != which || s.Effects() != n-1-which {
				t.Error(n, which, e, s.Lattice(), s.Effects())
			}
		}
	}
}

// TestMany has as many modules as there may be, and more.
func TestMany(t *testing.T) {
	for _, n := range []int{1, 63, 64} {
		s, file, at, e := scope.New(numbered(n), withLattice(n))
		if s.Len() != n || file != 0 || at != 0 || e != api.OK || len(s.Order()) != n {
			t.Error(n, file, at, e)
		}
	}
	for _, n := range []int{65, 100, 1000} {
		for _, names := range [][]string{numbered(n), make([]string, n)} {
			if s, file, at, e := scope.New(names, withLattice(n)); s != nil || file != 0 || at != 0 || e != api.ErrArg {
				t.Error(n, file, at, e)
			}
		}
	}
	for _, n := range [][2]int{{64, 63}, {63, 64}, {0, 64}, {64, 0}, {64, 65}, {65, 64}, {0, 0}, {0, 1}, {1, 0}} {
		if s, file, at, e := scope.New(numbered(n[0]), withLattice(n[1])); s != nil || file != 0 || at != 0 || e != api.ErrArg {
			t.Error(n, file, at, e)
		}
	}
}

func TestOrder(t *testing.T) {
	for _, c := range []struct{ imports, want string }{
		{"", "0"}, {"|", "0 1"}, {"m1|", "1 0"}, {"|m0", "0 1"}, {"||", "0 1 2"}, {"m2||", "1 2 0"}, {"m1|m2|", "2 1 0"}, {"m1 m2||", "1 2 0"}, {"m2 m1||", "1 2 0"}, {"|m2|", "0 2 1"}, {"||m0 m1", "0 1 2"},
		{"m3||m1|", "1 2 3 0"}, {"m3|m0||", "2 3 0 1"}, {"m1|m3||m2", "2 3 1 0"}, {"m1 m2|m3|m3|", "3 1 2 0"}, {"m2 m1|m3||", "2 3 1 0"}, {"|m4|m1||", "0 3 4 1 2"},
	} {
		mods := withLattice(1 + strings.Count(c.imports, "|"))
		for i, l := range strings.Split(c.imports, "|") {
			mods[i].Imports = imports(strings.Fields(l)...)
		}
		s, file, at, e := scope.New(numbered(len(mods)), mods)
		if e != api.OK {
			t.Fatal(c.imports, e, file, at)
		}
		var l []string
		for _, i := range s.Order() {
			l = append(l, strconv.Itoa(i))
		}
		if got := strings.Join(l, " "); got != c.want {
			t.Errorf("%s: %s, not %s", c.imports, got, c.want)
		}
	}
}

// TestLongRing has 64 modules in a row, each of which imports the next one, and a last import that leads back.
func TestLongRing(t *testing.T) {
	names := numbered(64)
	for _, step := range []int{1, 63, 5, 59, 31} {
		mods := withLattice(64)
		row := []int{0}
		for k := range 63 {
			next := (k + 1) * step % 64
			mods[row[k]].Imports = imports(names[next])
			row = append(row, next)
		}
		s, _, _, e := scope.New(names, mods)
		l := s.Order()
		slices.Reverse(l)
		if e != api.OK || !slices.Equal(l, row) {
			t.Error(step, e, l)
		}
		last := row[63]
		for k, back := range row {
			mods[last].Imports = []api.Name{{Name: names[back], At: 7}}
			first, at := slices.Min(row[k:]), 100
			if first == last {
				at = 7
			}
			if s, file, got, e := scope.New(names, mods); s != nil || file != first || got != at || e != api.ErrCycle {
				t.Errorf("step %d, back to %d: %d in %d at %d, not in %d at %d", step, back, e, file, got, first, at)
			}
		}
	}
}

// TestNone has a scope that isn't there, and the zero value.
func TestNone(t *testing.T) {
	for i, s := range []*scope.Scope{nil, new(scope.Scope)} {
		if s.Len() != 0 || s.Lattice() != -1 || s.Effects() != -1 || len(s.Order()) != 0 {
			t.Error(i, s.Len(), s.Lattice(), s.Effects(), s.Order())
		}
		for _, file := range []int{0, 1, -1, math.MaxInt, math.MinInt} {
			for _, name := range []string{"", "x", "a.x", ".", "if"} {
				if got := told(s.Var(file, name)) + told(s.Fn(file, name)); got != "" {
					t.Error(i, file, name, got)
				}
			}
		}
	}
}

// TestMemory looks whether a call changes what it is handed or reads what lies behind it, and whether an answer hangs on what is done with it, or with another answer.
func TestMemory(t *testing.T) {
	texts := []string{"import b; import c; var x: int; fn f(): int { return 1; }", "var y: int; effects {}", "lattice {} import b; var z: int;"}
	names, mods := []string{"a", "b", "c", "a", "if"}, append(read(t, texts...), api.Module{HasLattice: true, HasEffects: true}, api.Module{})
	for i := range mods[:3] {
		m := &mods[i]
		m.Imports = append(m.Imports, api.Name{Name: "none"})[:len(m.Imports)]
		m.Vars = append(m.Vars, m.Vars[0])[:len(m.Vars)]
		m.Fns = append(m.Fns, api.Fn{Name: m.Vars[0].Name})[:len(m.Fns)]
	}
	m := model{slices.Clone(names[:3]), read(t, texts...)}
	s, _, _, e := scope.New(names[:3:4], mods[:3:4])
	if e != api.OK {
		t.Fatal(e)
	}
	for i := range mods[:3] {
		if !slices.Equal(mods[i].Imports, m.mods[i].Imports) || mods[i].Imports[:len(mods[i].Imports)+1][len(mods[i].Imports)].Name != "none" || mods[i].Vars[0] != m.mods[i].Vars[0] {
			t.Error(i, mods[i])
		}
	}
	if !slices.Equal(names, []string{"a", "b", "c", "a", "if"}) || !mods[3].HasLattice || mods[4].HasLattice {
		t.Error(names, mods)
	}
	m.hold(t, s)
	for i := range mods {
		clear(mods[i].Imports)
		clear(mods[i].Vars)
		clear(mods[i].Fns)
	}
	clear(names)
	clear(mods)
	m.hold(t, s)
	first := s.Order()
	for i := range first[:cap(first)] {
		first[:cap(first)][i] = 9
	}
	m.hold(t, s)
	copied, other := *s, made(t, "z", "lattice {}")
	*s = *other
	if s.Len() != 1 || len(s.Order()) != 1 || told(s.Var(0, "x")) != "" {
		t.Error(s.Len(), s.Order())
	}
	m.hold(t, &copied)
	*s = scope.Scope{}
	if other.Len() != 1 || s.Lattice() != -1 {
		t.Error(other.Len(), s.Lattice())
	}
}
