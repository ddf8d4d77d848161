package bind_test

import (
	"math"
	"reflect"
	"slices"
	"strconv"
	"strings"
	"testing"

	"blazon/api"
	"blazon/bind"
	"blazon/file"
	"blazon/scope"
)

// A fault is the first error, and where.
type fault struct {
	file, at int
	e        api.Errno
}

// A mark is an annotation, or where one would come, of a module, and the site that has it.
type mark struct{ file, from, site int }

// A named is a let or a parameter of a function: the path of the block in which it stands (a piece with a . at its end for each block within a block), the number of its statement in the function (0 of a parameter), and its site.
type named struct {
	name, path  string
	order, site int
}

// A model says what modules come to by the chapter's words. It notes all sites and all errors, and takes the first of these: each name is looked for among all lets of its function.
type model struct {
	names  []string
	mods   []api.Module
	prog   api.Prog
	marks  []mark
	faults []fault
	file   int
	locals []named
	order  int
}

func (m *model) fault(at int, e api.Errno) { m.faults = append(m.faults, fault{m.file, at, e}) }

func (m *model) site(kind, fn, typ int, name string, a api.Ann, at int) int {
	n := len(m.prog.Sites)
	if n >= 512 {
		m.fault(at, api.ErrFull)
	}
	if kind == api.SitePc {
		m.prog.Sites = append(m.prog.Sites, api.Site{Kind: kind, File: m.file, Fn: fn, Mark: -1})
		return n
	}
	m.prog.Sites = append(m.prog.Sites, api.Site{Kind: kind, File: m.file, Fn: fn, Type: typ, Name: name})
	m.marks = append(m.marks, mark{m.file, a.From, n})
	return n
}

// run is the program, or the first fault.
func (m *model) run() (api.Prog, fault) {
	for i, mod := range m.mods {
		m.file = i
		for _, v := range mod.Vars {
			m.site(api.SiteVar, -1, v.Type, v.Name, v.Ann, v.At)
		}
	}
	for i, mod := range m.mods {
		m.file = i
		for _, f := range mod.Fns {
			m.function(f)
		}
	}
	// As many stand ahead of an annotation as are at a lesser place, or at its own and noted earlier.
	for k, a := range m.marks {
		for j, b := range m.marks {
			if a.file == b.file && (b.from < a.from || b.from == a.from && j < k) {
				m.prog.Sites[a.site].Mark++
			}
		}
	}
	if len(m.faults) > 0 {
		return api.Prog{}, m.faults[0]
	}
	return m.prog, fault{}
}

func (m *model) function(f api.Fn) {
	fn := len(m.prog.Fns)
	m.locals, m.order = nil, 0
	g := api.Func{Name: f.Name, File: m.file, At: f.At, Row: f.Row}
	for _, p := range f.Params {
		if m.there(p.Name, "", 1) {
			m.fault(p.At, api.ErrThere)
		}
		n := m.site(api.SiteParam, fn, p.Type, p.Name, p.Ann, p.At)
		m.locals = append(m.locals, named{p.Name, "", 0, n})
		g.Params = append(g.Params, n)
	}
	g.Result = m.site(api.SiteResult, fn, f.Type, f.Name, f.Ann, f.At)
	g.Pc = m.site(api.SitePc, fn, 0, "", api.Ann{}, f.At)
	g.Body = m.row(f.Body, "", fn)
	g.Ret = m.expr(f.Ret, "", math.MaxInt)
	m.prog.Fns = append(m.prog.Fns, g)
}

// local is what has a name in a function where a block and a statement's number are: -1, if nothing does.
func (m *model) local(name, path string, order int) int {
	for _, l := range m.locals {
		if l.name == name && strings.HasPrefix(path, l.path) && l.order < order {
			return l.site
		}
	}
	return -1
}

func (m *model) there(name, path string, order int) bool { return m.local(name, path, order) >= 0 }

// place is the number of a name in a module, or in one that it imports, among all that count says; -1: it is none.
func (m *model) place(name string, of func(api.Module) []string) int {
	n := 0
	places := map[string]int{}
	for i, mod := range m.mods {
		for _, x := range of(mod) {
			for _, imported := range m.mods[m.file].Imports {
				if imported.Name == m.names[i] {
					places[m.names[i]+"."+x] = n
				}
			}
			n++
		}
	}
	n = 0
	for i, mod := range m.mods {
		for _, x := range of(mod) {
			if i == m.file {
				places[x] = n
			}
			n++
		}
	}
	if at, ok := places[name]; ok {
		return at
	}
	return -1
}

func (m *model) name(name, path string, order, at int) int {
	n := m.local(name, path, order)
	if n < 0 {
		n = m.place(name, func(mod api.Module) (l []string) {
			for _, v := range mod.Vars {
				l = append(l, v.Name)
			}
			return l
		})
	}
	if n < 0 {
		m.fault(at, api.ErrName)
	}
	return n
}

func (m *model) called(name string, at int) int {
	n := m.place(name, func(mod api.Module) (l []string) {
		for _, f := range mod.Fns {
			l = append(l, f.Name)
		}
		return l
	})
	if n < 0 {
		m.fault(at, api.ErrName)
	}
	return n
}

func (m *model) row(l []api.Stmt, path string, fn int) (acts []api.Act) {
	for _, s := range l {
		m.order++
		acts = append(acts, m.stmt(s, path, fn, m.order))
	}
	return acts
}

func (m *model) stmt(s api.Stmt, path string, fn, order int) api.Act {
	within := path + strconv.Itoa(order)
	switch s.Kind {
	case api.StmtLet:
		e := m.expr(s.E, path, order)
		if m.there(s.Name, path, order) {
			m.fault(s.At, api.ErrThere)
		}
		n := m.site(api.SiteLocal, fn, s.Type, s.Name, s.Ann, s.At)
		m.locals = append(m.locals, named{s.Name, path, order, n})
		return api.Act{Kind: api.ActSet, At: s.At, Site: n, E: e}
	case api.StmtSet:
		n := m.name(s.Name, path, order, s.At)
		return api.Act{Kind: api.ActSet, At: s.At, Site: n, E: m.expr(s.E, path, order)}
	case api.StmtIf:
		e := m.expr(s.E, path, order)
		l := m.row(s.L, within+"if.", fn)
		return api.Act{Kind: api.ActIf, At: s.At, E: e, L: l, Else: m.row(s.Else, within+"else.", fn)}
	case api.StmtWhile:
		e := m.expr(s.E, path, order)
		return api.Act{Kind: api.ActWhile, At: s.At, E: e, L: m.row(s.L, within+"while.", fn)}
	case api.StmtDo:
		return api.Act{Kind: api.ActDo, At: s.At, Name: s.Name}
	case api.StmtCall:
		return api.Act{Kind: api.ActCall, At: s.At, E: m.expr(s.E, path, order)}
	}
	return api.Act{Kind: s.Kind, At: s.At}
}

func (m *model) expr(e api.Expr, path string, order int) api.Code {
	switch e.Kind {
	case api.ExprNum:
		return api.Code{Kind: api.CodeNum, At: e.At, Num: e.Num}
	case api.ExprBool:
		return api.Code{Kind: api.CodeBool, At: e.At, Num: e.Num}
	case api.ExprName:
		return api.Code{Kind: api.CodeSite, At: e.At, Site: m.name(e.Name, path, order, e.At)}
	case api.ExprCall:
		n := m.called(e.Name, e.At)
		return api.Code{Kind: api.CodeCall, At: e.At, Fn: n, L: m.parts(e.L, path, order)}
	}
	l := m.parts(e.L, path, order)
	switch e.Kind {
	case api.ExprUnary:
		return api.Code{Kind: api.CodeUnary, At: e.At, Name: e.Name, L: l}
	case api.ExprBinary:
		return api.Code{Kind: api.CodeBinary, At: e.At, Name: e.Name, L: l}
	case api.ExprOpen:
		return api.Code{Kind: api.CodeOpen, At: e.At, Name: e.Label, L: l}
	}
	return api.Code{Kind: e.Kind, At: e.At, L: l}
}

func (m *model) parts(l []api.Expr, path string, order int) (codes []api.Code) {
	for _, e := range l {
		codes = append(codes, m.expr(e, path, order))
	}
	return codes
}

// plain makes of each list without elements one that is nil, since these are the same thing.
func plain(v reflect.Value) {
	switch v.Kind() {
	case reflect.Struct:
		for i := range v.NumField() {
			plain(v.Field(i))
		}
	case reflect.Slice:
		if v.Len() == 0 {
			v.SetZero()
		}
		for i := range v.Len() {
			plain(v.Index(i))
		}
	}
}

// same tells whether two programs are the same, down to the last part.
func same(a, b api.Prog) bool {
	plain(reflect.ValueOf(&a).Elem())
	plain(reflect.ValueOf(&b).Elem())
	return reflect.DeepEqual(a, b)
}

// check holds what New answers, of modules that have a scope, against the model, and tells the error.
func check(t *testing.T, names []string, mods []api.Module) api.Errno {
	t.Helper()
	s, _, _, e := scope.New(names, mods)
	if e != api.OK {
		t.Fatalf("%+v: %d", mods, e)
	}
	p, in, at, e := bind.New(s, mods)
	want, first := (&model{names: names, mods: mods}).run()
	if got := (fault{in, at, e}); got != first || !same(p, want) {
		t.Fatalf("%+v:\n%+v, %+v; not\n%+v, %+v", mods, p, got, want, first)
	}
	if e == api.OK {
		holds(t, p, mods)
	}
	return e
}

// holds looks for what P18.2 says of a program.
func holds(t *testing.T, p api.Prog, mods []api.Module) {
	t.Helper()
	for i, m := range mods {
		marks := file.Marks(m)
		var seen []int
		for _, s := range p.Sites {
			if s.File == i && s.Kind != api.SitePc {
				seen = append(seen, s.Mark)
			}
		}
		slices.Sort(seen)
		for k := range max(len(seen), len(marks)) {
			if len(seen) != len(marks) || seen[k] != k {
				t.Fatalf("%+v: in %d the marks %v of %d annotations", p, i, seen, len(marks))
			}
		}
	}
	for i, s := range p.Sites {
		if s.Kind == api.SiteVar {
			continue
		}
		first, end := from(p, s.Fn), len(p.Sites)
		if s.Fn+1 < len(p.Fns) {
			end = from(p, s.Fn+1)
		}
		if i < first || i >= end {
			t.Fatalf("%+v: site %d of function %d stands outside of %d to %d", p, i, s.Fn, first, end)
		}
	}
}

// from is a function's first site.
func from(p api.Prog, fn int) int {
	return append(slices.Clone(p.Fns[fn].Params), p.Fns[fn].Result)[0]
}
