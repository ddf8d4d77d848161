package scope_test

import (
	"math/rand/v2"
	"slices"
	"strings"
	"testing"

	"blazon/api"
	"blazon/scope"
)

// A model is modules and their names alone: each thing is looked for in the lists, each time anew.
type model struct {
	names []string
	mods  []api.Module
}

// A fault is the first error, and where.
type fault struct {
	file, at int
	e        api.Errno
}

// The names that tests give to modules of models; every other one is none.
func good(name string) bool {
	return name != "" && strings.Trim(name, "abcdefm0123456789") == "" && name[0] > '9'
}

// fault says what a model comes to: kind by kind, all errors of a kind are looked for.
func (m model) fault() fault {
	if len(m.names) != len(m.mods) || len(m.names) == 0 || len(m.names) > 64 {
		return fault{0, 0, api.ErrArg}
	}
	for _, all := range []func() []fault{m.wrongNames, m.wrongImports, m.rings, m.wrongLattices, m.wrongEffects, m.twice} {
		if l := all(); len(l) > 0 {
			return l[0]
		}
	}
	return fault{}
}

func (m model) wrongNames() (l []fault) {
	for i, n := range m.names {
		if !good(n) {
			l = append(l, fault{i, 0, api.ErrName})
		} else if slices.Index(m.names, n) < i {
			l = append(l, fault{i, 0, api.ErrThere})
		}
	}
	return l
}

func (m model) wrongImports() (l []fault) {
	for i, mod := range m.mods {
		for k, n := range mod.Imports {
			if !slices.Contains(m.names, n.Name) {
				l = append(l, fault{i, n.At, api.ErrName})
			}
			for _, ahead := range mod.Imports[:k] {
				if ahead.Name == n.Name {
					l = append(l, fault{i, n.At, api.ErrThere})
				}
			}
		}
	}
	return l
}

// grow is a set of modules, by name, with all that they import, and what these import, and so on.
func (m model) grow(l []string) []string {
	for k := 0; k < len(l); k++ {
		for _, n := range m.mods[slices.Index(m.names, l[k])].Imports {
			if !slices.Contains(l, n.Name) {
				l = append(l, n.Name)
			}
		}
	}
	return l
}

func (m model) rings() (l []fault) {
	for i, mod := range m.mods {
		for _, n := range mod.Imports {
			if slices.Contains(m.grow([]string{n.Name}), m.names[i]) {
				l = append(l, fault{i, n.At, api.ErrCycle})
			}
		}
	}
	return l
}

func (m model) wrongLattices() (l []fault) {
	switch has := m.having(func(mod api.Module) bool { return mod.HasLattice }); len(has) {
	case 0:
		return []fault{{0, 0, api.ErrLattice}}
	case 1:
		return nil
	default:
		return []fault{{has[1], 0, api.ErrLattice}}
	}
}

func (m model) wrongEffects() (l []fault) {
	if has := m.having(func(mod api.Module) bool { return mod.HasEffects }); len(has) > 1 {
		return []fault{{has[1], 0, api.ErrThere}}
	}
	return nil
}

func (m model) having(f func(api.Module) bool) (l []int) {
	for i, mod := range m.mods {
		if f(mod) {
			l = append(l, i)
		}
	}
	return l
}

func (m model) twice() (l []fault) {
	for i, mod := range m.mods {
		var all []api.Name
		for _, v := range mod.Vars {
			all = append(all, api.Name{Name: v.Name, At: v.At})
		}
		for _, f := range mod.Fns {
			all = append(all, api.Name{Name: f.Name, At: f.At})
		}
		for k, n := range all {
			if slices.ContainsFunc(all[:k], func(o api.Name) bool { return o.Name == n.Name }) {
				l = append(l, fault{i, n.At, api.ErrThere})
			}
		}
	}
	return l
}

// order takes, again and again, the least of the modules that may come next.
func (m model) order() []int {
	var l []int
	for len(l) < len(m.names) {
		for i, mod := range m.mods {
			waits := slices.ContainsFunc(mod.Imports, func(n api.Name) bool { return !slices.Contains(l, slices.Index(m.names, n.Name)) })
			if !waits && !slices.Contains(l, i) {
				l = append(l, i)
				break
			}
		}
	}
	return l
}

// things are all names that there are in a module, those of modules that it imports too, with what they are.
func (m model) things(file int) (vars, fns map[string]string) {
	vars, fns = map[string]string{}, map[string]string{}
	tell := func(in int, ahead string) {
		for k, v := range m.mods[in].Vars {
			vars[ahead+v.Name] = told(in, k, true)
		}
		for k, f := range m.mods[in].Fns {
			fns[ahead+f.Name] = told(in, k, true)
		}
	}
	tell(file, "")
	for _, n := range m.mods[file].Imports {
		tell(slices.Index(m.names, n.Name), n.Name+".")
	}
	return vars, fns
}

// hold asks a scope for all that the model says of itself.
func (m model) hold(t *testing.T, s *scope.Scope) {
	t.Helper()
	lattice := m.having(func(mod api.Module) bool { return mod.HasLattice })[0]
	effects := append(m.having(func(mod api.Module) bool { return mod.HasEffects }), -1)[0]
	if s.Len() != len(m.names) || s.Lattice() != lattice || s.Effects() != effects {
		t.Fatalf("%v: %d, %d, %d", m, s.Len(), s.Lattice(), s.Effects())
	}
	m.holdOrder(t, s.Order())
	ask := []string{"", "if", ".", "none", "none.a"}
	for _, n := range m.names {
		ask = append(ask, n, n+".", n+".none", n+"."+n)
		for _, x := range []string{"a", "b", "x", "y", "z", "f"} {
			ask = append(ask, n+"."+x, x)
		}
	}
	for i := range m.names {
		vars, fns := m.things(i)
		for _, n := range ask {
			if got := told(s.Var(i, n)); got != vars[n] {
				t.Fatalf("%v: variable %q in %d: %q, not %q", m, n, i, got, vars[n])
			}
			if got := told(s.Fn(i, n)); got != fns[n] {
				t.Fatalf("%v: function %q in %d: %q, not %q", m, n, i, got, fns[n])
			}
		}
	}
	for _, n := range ask {
		if got := told(s.Var(-1, n)) + told(s.Fn(-1, n)) + told(s.Var(len(m.names), n)) + told(s.Fn(len(m.names), n)); got != "" {
			t.Fatalf("%v: %q in no module: %q", m, n, got)
		}
	}
}

// holdOrder: all modules, as the model has them, and (P17.3) none ahead of one that it imports.
func (m model) holdOrder(t *testing.T, l []int) {
	t.Helper()
	if !slices.Equal(l, m.order()) {
		t.Fatalf("%v: %v, not %v", m, l, m.order())
	}
	for k, i := range l {
		for _, n := range m.mods[i].Imports {
			if !slices.Contains(l[:k], slices.Index(m.names, n.Name)) {
				t.Fatalf("%v: %v: %d ahead of %s", m, l, i, n.Name)
			}
		}
	}
}

// check holds what New answers against the model, and tells the error.
func (m model) check(t *testing.T) api.Errno {
	t.Helper()
	s, file, at, e := scope.New(m.names, m.mods)
	if want := m.fault(); (s == nil) != (want.e != api.OK) || (fault{file, at, e}) != want {
		t.Fatalf("%v: %v, not %v", m, fault{file, at, e}, want)
	}
	if e == api.OK {
		m.hold(t, s)
	}
	return e
}

// TestAllImports has all ways in which up to three modules, and each way in which four modules import one another, each in two orders of what one imports.
func TestAllImports(t *testing.T) {
	for n := 1; n <= 4; n++ {
		names := numbered(n)
		for ways := range 1 << (n * n) {
			for _, back := range []bool{false, true} {
				m := model{names, withLattice(n)}
				for k := range n * n {
					i, to := k/n, k%n
					if back {
						to = n - 1 - to
					}
					if ways>>(i*n+to)&1 == 1 {
						m.mods[i].Imports = append(m.mods[i].Imports, api.Name{Name: names[to], At: 10*i + to})
					}
				}
				m.check(t)
			}
		}
	}
}

// TestAllNames has all ways to call up to four modules, wrong ones and ones twice too, and all imports of one of these.
func TestAllNames(t *testing.T) {
	words := []string{"a", "b", "c", "", "if"}
	for _, names := range lists(4, words) {
		for _, l := range append(lists(1, words), lists(2, words[:3])...) {
			mods := withLattice(len(names))
			if len(mods) > 0 {
				mods[len(mods)-1].Imports = imports(l...)
			}
			model{names, mods}.check(t)
		}
	}
}

// TestAllThings has all ways to call up to four variables and functions in all of one module, and the like in one that imports it.
func TestAllThings(t *testing.T) {
	words := []string{"a", "b", "x"}
	for _, first := range lists(4, words) {
		for _, second := range lists(2, words) {
			for cut := range len(first) + 1 {
				m := model{[]string{"a", "b"}, withLattice(2)}
				m.mods[0].Vars, m.mods[0].Fns = things(first, cut)
				m.mods[1].Vars, m.mods[1].Fns = things(second, min(cut, len(second)))
				m.mods[1].Imports = imports("a")
				m.check(t)
			}
		}
	}
}

// TestAllHas has all ways in which up to five modules have a lattice and effects.
func TestAllHas(t *testing.T) {
	for n := 1; n <= 5; n++ {
		for ways := range 1 << (2 * n) {
			m := model{numbered(n), make([]api.Module, n)}
			for i := range n {
				m.mods[i].HasLattice, m.mods[i].HasEffects = ways>>(2*i)&1 == 1, ways>>(2*i)&2 == 2
			}
			m.check(t)
		}
	}
}

// things are variables, and from a place on functions, of these names.
func things(names []string, cut int) (vars []api.Var, fns []api.Fn) {
	for i, n := range names {
		if i < cut {
			vars = append(vars, api.Var{Name: n, At: 50 - i})
		} else {
			fns = append(fns, api.Fn{Name: n, At: 40 - i})
		}
	}
	return vars, fns
}

// lists are all those of up to n of these words.
func lists(n int, words []string) [][]string {
	all := [][]string{nil}
	for from := 0; n > 0; n-- {
		to := len(all)
		for _, l := range all[from:to] {
			for _, s := range words {
				all = append(all, append(slices.Clone(l), s))
			}
		}
		from = to
	}
	return all
}

// TestDrawn has drawn modules, few of which are wrong, up to as many as there may be.
func TestDrawn(t *testing.T) {
	w := rand.New(rand.NewPCG(17, 1))
	seen := map[api.Errno]int{}
	for round := range 6000 {
		most := 7
		if round%40 == 0 {
			most = 66
		}
		seen[drawn(w, 1+w.IntN(most)).check(t)]++
	}
	for _, e := range []api.Errno{api.OK, api.ErrArg, api.ErrName, api.ErrThere, api.ErrCycle, api.ErrLattice} {
		if seen[e] < 5 {
			t.Errorf("only %d times %d: %v", seen[e], e, seen)
		}
	}
}

// drawn are so many modules: each mostly imports those that come ahead of it in a drawn row.
func drawn(w *rand.Rand, n int) model {
	m := model{numbered(n), make([]api.Module, n)}
	m.mods[w.IntN(n)].HasLattice = true
	m.mods[w.IntN(n)].HasEffects = w.IntN(2) == 0
	ranks, dense := w.Perm(n), w.IntN(4)
	words := []string{"a", "b", "x", "y", "z", "f", m.names[0]}
	for i := range n {
		mod := &m.mods[i]
		for _, to := range w.Perm(n) {
			if ranks[to] < ranks[i] && w.IntN(4) <= dense || w.IntN(12*n*n) == 0 {
				mod.Imports = append(mod.Imports, api.Name{Name: m.names[to], At: w.IntN(1000) - 100})
			}
		}
		w.Shuffle(len(words), func(i, k int) { words[i], words[k] = words[k], words[i] })
		l := slices.Clone(words[:w.IntN(len(words))])
		if len(l) > 1 && w.IntN(10*n) == 0 {
			l[w.IntN(len(l))] = l[w.IntN(len(l))]
		}
		mod.Vars, mod.Fns = things(l, w.IntN(len(l)+1))
	}
	m.spoil(w)
	return m
}

// spoil makes something wrong, now and then.
func (m *model) spoil(w *rand.Rand) {
	i, k := w.IntN(len(m.names)), w.IntN(len(m.names))
	switch w.IntN(16) {
	case 0:
		m.names[i] = []string{"", "if", m.names[k], "d"}[w.IntN(4)]
	case 1:
		m.mods[i].Imports = append(m.mods[i].Imports, api.Name{Name: []string{"", "if", m.names[k], "d"}[w.IntN(4)], At: w.IntN(100)})
	case 2:
		m.mods[i].HasLattice = !m.mods[i].HasLattice
	case 3:
		m.mods[i].HasEffects = true
	case 4:
		m.names = m.names[:k]
	}
}
