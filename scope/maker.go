package scope

import (
	"blazon/api"
	"blazon/lex"
)

// A maker makes a scope of modules, step by step. Each step answers the first of its errors, and where.
type maker struct {
	scope   *Scope
	names   []string
	mods    []api.Module
	numbers map[string]int
}

func (m *maker) number() (file, at int, e api.Errno) {
	for i, n := range m.names {
		if !lex.Ident(n) {
			return i, 0, api.ErrName
		}
		if _, there := m.numbers[n]; there {
			return i, 0, api.ErrThere
		}
		m.numbers[n] = i
	}
	return 0, 0, api.OK
}

func (m *maker) link() (file, at int, e api.Errno) {
	for i, mod := range m.mods {
		for _, n := range mod.Imports {
			to, known := m.numbers[n.Name]
			if !known {
				return i, n.At, api.ErrName
			}
			if _, there := m.scope.imports[name{i, n.Name}]; there {
				return i, n.At, api.ErrThere
			}
			m.scope.imports[name{i, n.Name}] = to
		}
	}
	return 0, 0, api.OK
}

func (m *maker) circle() (file, at int, e api.Errno) {
	far := m.scope.far()
	for i, mod := range m.mods {
		for _, n := range mod.Imports {
			if far[m.numbers[n.Name]]>>i&1 == 1 {
				return i, n.At, api.ErrCycle
			}
		}
	}
	return 0, 0, api.OK
}

func (m *maker) lattice() (file, at int, e api.Errno) {
	l := m.those(func(mod api.Module) bool { return mod.HasLattice })
	switch {
	case len(l) == 0:
		return 0, 0, api.ErrLattice
	case len(l) > 1:
		return l[1], 0, api.ErrLattice
	}
	m.scope.lattice = l[0]
	return 0, 0, api.OK
}

func (m *maker) effects() (file, at int, e api.Errno) {
	l := m.those(func(mod api.Module) bool { return mod.HasEffects })
	switch {
	case len(l) > 1:
		return l[1], 0, api.ErrThere
	case len(l) == 1:
		m.scope.effects = l[0]
	}
	return 0, 0, api.OK
}

func (m *maker) things() (file, at int, e api.Errno) {
	for i, mod := range m.mods {
		for k, v := range mod.Vars {
			if !m.know(name{i, v.Name}, thing{ofVar, k}) {
				return i, v.At, api.ErrThere
			}
		}
		for k, f := range mod.Fns {
			if !m.know(name{i, f.Name}, thing{ofFn, k}) {
				return i, f.At, api.ErrThere
			}
		}
	}
	return 0, 0, api.OK
}

// know takes a name for a thing; false: it is another one's.
func (m *maker) know(n name, t thing) bool {
	if _, there := m.scope.own[n]; there {
		return false
	}
	m.scope.own[n] = t
	return true
}

// those are the modules of which something holds.
func (m *maker) those(has func(api.Module) bool) []int {
	var l []int
	for i, mod := range m.mods {
		if has(mod) {
			l = append(l, i)
		}
	}
	return l
}
