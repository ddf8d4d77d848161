package bind_test

import (
	"math/rand/v2"
	"reflect"
	"slices"
	"strconv"
	"strings"
	"testing"

	"blazon/api"
	"blazon/bind"
	"blazon/file"
	"blazon/scope"
	"blazon/show"
)

// TestAllBodies has all bodies of up to six pieces: lets, sets, and blocks that begin, go on, and end.
func TestAllBodies(t *testing.T) {
	pieces := []string{"let a: int = 1;", "let b: int = a;", "a = b;", "if (a) {", "} else {", "while (b) {", "}"}
	seen := map[api.Errno]int{}
	for n := range 7 {
		places := make([]int, n)
		for {
			text := ""
			for _, i := range places {
				text += pieces[i]
			}
			// The first one has no variables to fall back on, the second one does.
			for _, ahead := range []string{"", "var a: int; var b: int; "} {
				if m, _, e := file.Parse([]byte(ahead + "lattice {} fn f(): int {" + text + "return a;}")); e == api.OK {
					seen[check(t, []string{"m"}, []api.Module{m})]++
				}
			}
			k := 0
			for k < n && places[k] == len(pieces)-1 {
				places[k] = 0
				k++
			}
			if k == n {
				break
			}
			places[k]++
		}
	}
	for _, e := range []api.Errno{api.OK, api.ErrThere, api.ErrName} {
		if seen[e] < 500 {
			t.Errorf("only %d times %d: %v", seen[e], e, seen)
		}
	}
}

// A maker makes modules, the same ones in each run. Names are mostly such as are there: wrong says how seldom another one is taken. What isn't read of texts has parts of any kind.
type maker struct {
	*rand.Rand
	wrong int
	any   bool
	vars  []string // what a name may be in the module that is made
	fns   []string
	lets  int // how many more may come, mostly under new names
}

func (k *maker) one(l ...string) string { return l[k.IntN(len(l))] }

func (k *maker) odd() bool { return k.any && k.IntN(12) == 0 }

func (k *maker) at() int { return k.IntN(40) - 8 }

func (k *maker) ann() api.Ann {
	a := api.Ann{Some: k.IntN(2) == 0, From: k.IntN(6), To: k.IntN(2)}
	if a.Some {
		a.Lock, a.Label = k.IntN(2) == 0, k.one("low", "high")
	}
	return a
}

// name is one of these, or mostly so.
func (k *maker) name(l []string) string {
	if len(l) == 0 || k.IntN(k.wrong) == 0 {
		return k.one("a", "b", "x", "f", "g", "m0.x", "m1.f", "m2.v0", "none", "m0.none", "none.x")
	}
	return k.one(l...)
}

func (k *maker) expr(high int, locals []string) api.Expr {
	e := api.Expr{Kind: k.IntN(7), At: k.at()}
	if high <= 1 || k.IntN(4) == 0 {
		e.Kind = k.IntN(3)
	}
	n := 0
	switch e.Kind {
	case api.ExprNum:
		e.Num = int64(k.IntN(100))
	case api.ExprBool:
		e.Num = int64(k.IntN(2))
	case api.ExprName:
		e.Name = k.name(slices.Concat(locals, locals, k.vars))
	case api.ExprCall:
		if e.Name, n = k.name(k.fns), k.IntN(3); len(k.fns) == 0 {
			return api.Expr{At: e.At}
		}
	case api.ExprUnary:
		e.Name, n = k.one("!", "-"), 1
	case api.ExprBinary:
		e.Name, n = k.one("*", "+", "-", "==", "<", "&&", "||"), 2
	case api.ExprOpen:
		e.Label, n = k.one("low", "high", "x"), 1
	}
	if k.odd() {
		n = k.IntN(4)
	}
	for range n {
		e.L = append(e.L, k.expr(high-1, locals))
	}
	if k.odd() {
		e.Num, e.Label, e.Kind = 5, "low", k.IntN(12)-3
	}
	return e
}

// row makes statements where so many names are there.
func (k *maker) row(deep int, locals []string) []api.Stmt {
	var l []api.Stmt
	for range k.IntN(4) {
		s := k.stmt(deep, locals)
		if s.Kind == api.StmtLet {
			locals = append(slices.Clip(locals), s.Name)
		}
		l = append(l, s)
	}
	return l
}

func (k *maker) stmt(deep int, locals []string) api.Stmt {
	s := api.Stmt{Kind: k.IntN(6), At: k.at(), E: k.expr(4, locals)}
	if deep == 0 && (s.Kind == api.StmtIf || s.Kind == api.StmtWhile) || s.Kind == api.StmtCall && len(k.fns) == 0 {
		s.Kind = api.StmtSet
	}
	switch s.Kind {
	case api.StmtLet:
		s.Type, s.Ann, s.Name = k.IntN(2), k.ann(), k.one("a", "b", "c", "x", "f", "d1", "d2", "d3", "d4", "d5", "d6")
		if slices.Contains(locals, s.Name) && k.IntN(k.wrong) > 0 {
			k.lets++
			s.Name = "l" + strconv.Itoa(k.lets)
		}
	case api.StmtSet:
		s.Name = k.name(slices.Concat(locals, k.vars))
	case api.StmtDo:
		s.E, s.Name = api.Expr{}, k.one("net", "log")
	case api.StmtCall:
		s.E = api.Expr{Kind: api.ExprCall, At: k.at(), Name: k.name(k.fns), L: []api.Expr{s.E}}
	}
	if s.Kind == api.StmtIf || s.Kind == api.StmtWhile || k.odd() && deep > 0 {
		s.L = k.row(deep-1, locals)
	}
	if s.Kind == api.StmtIf || k.odd() && deep > 0 {
		s.Else = k.row(deep-1, locals)
	}
	if k.odd() {
		s.Kind = k.IntN(12) - 3
	}
	return s
}

func (k *maker) fn(name string) api.Fn {
	f := api.Fn{Name: name, At: k.at(), Type: k.IntN(2), Ann: k.ann()}
	var locals []string
	for range k.IntN(4) {
		v := api.Var{Name: k.one("a", "b", "c", "x", "y"), At: k.at(), Type: k.IntN(2), Ann: k.ann()}
		if !slices.Contains(locals, v.Name) || k.IntN(k.wrong) == 0 {
			f.Params, locals = append(f.Params, v), append(locals, v.Name)
		}
	}
	if f.Row.Some = k.IntN(2) == 0; f.Row.Some || k.odd() {
		f.Row.L = []api.Name{{Name: "net", At: k.at()}, {Name: "log", At: k.at()}}[:k.IntN(3)]
	}
	f.Body = k.row(4, locals)
	for _, s := range f.Body {
		if s.Kind == api.StmtLet {
			locals = append(locals, s.Name)
		}
	}
	f.Ret = k.expr(5, locals)
	return f
}

// modules makes so many of them, each of which imports some of those behind it, with so many more variables in one of them.
func (k *maker) modules(n, more int) ([]string, []api.Module) {
	names, mods := make([]string, n), make([]api.Module, n)
	vars, fns := make([][]string, n), make([][]string, n)
	for i := range n {
		names[i] = "m" + strconv.Itoa(i)
		vars[i] = []string{"x", "y", "z", "v0"}[:k.IntN(5)]
		fns[i] = []string{"f", "g", "h"}[:k.IntN(4)]
	}
	full := k.IntN(n)
	for i := range more {
		vars[full] = append(slices.Clip(vars[full]), "v"+strconv.Itoa(i+1))
	}
	mods[k.IntN(n)].HasLattice = true
	for i := range n {
		k.vars, k.fns = slices.Clone(vars[i]), slices.Clone(fns[i])
		for to := n - 1; to > i; to-- {
			if k.IntN(3) > 0 {
				mods[i].Imports = append(mods[i].Imports, api.Name{Name: names[to]})
				for _, s := range vars[to] {
					k.vars = append(k.vars, names[to]+"."+s)
				}
				for _, s := range fns[to] {
					k.fns = append(k.fns, names[to]+"."+s)
				}
			}
		}
		for _, s := range vars[i] {
			mods[i].Vars = append(mods[i].Vars, api.Var{Name: s, At: k.at(), Type: k.IntN(2), Ann: k.ann()})
		}
		for _, s := range fns[i] {
			mods[i].Fns = append(mods[i].Fns, k.fn(s))
		}
	}
	return names, mods
}

// loosen is what a text says, whose items stand in another order.
func (k *maker) loosen(t *testing.T, m api.Module) api.Module {
	t.Helper()
	var items []string
	text := show.Module(m)
	for len(text) > 0 {
		end := strings.Index(text, "\n") + 1
		if strings.HasPrefix(text, "lattice") || strings.HasPrefix(text, "fn") {
			end = strings.Index(text, "\n}\n") + 3
		}
		items, text = append(items, text[:end]), text[end:]
	}
	k.Shuffle(len(items), func(i, j int) { items[i], items[j] = items[j], items[i] })
	text = strings.Join(items, k.one("", "# why\n", "\n"))
	read, at, e := file.Parse([]byte(text))
	if e != api.OK {
		t.Fatalf("%s: %d at %d", text, e, at)
	}
	return read
}

// TestDrawn has drawn modules, read of texts or made by hand, about as many of which are wrong as are right; some have about as many sites as there may be.
func TestDrawn(t *testing.T) {
	seen := map[string]int{}
	for seed := range uint64(8000) {
		k := &maker{Rand: rand.New(rand.NewPCG(seed, 18)), wrong: []int{4, 30, 200, 1 << 30}[seed%4]}
		k.any = seed%3 == 0
		more := 0
		if seed%10 == 0 {
			more = 420 + k.IntN(100)
		}
		names, mods := k.modules(1+k.IntN(4), more)
		for i := range mods {
			if !k.any && seed%10 > 0 {
				mods[i] = k.loosen(t, mods[i])
			}
		}
		e := check(t, names, mods)
		seen["error "+strconv.Itoa(int(e))]++
		seen["read "+strconv.FormatBool(!k.any)+" right "+strconv.FormatBool(e == api.OK)]++
	}
	for _, s := range []string{"error 0", "error 7", "error 8", "error 13", "read true right true", "read true right false", "read false right true", "read false right false"} {
		if seen[s] < 100 {
			t.Errorf("only %d times %s: %v", seen[s], s, seen)
		}
	}
}

// behind has a thing behind each list's length, in its memory; asked says whether it is there still.
func behind(mods []api.Module) (asked func() bool) {
	var l []func() bool
	e, s := api.Expr{Kind: api.ExprName, Name: "none"}, api.Stmt{Kind: api.StmtSet, Name: "none"}
	var expr func(e *api.Expr)
	var row func(list *[]api.Stmt)
	expr = func(x *api.Expr) {
		for i := range x.L {
			expr(&x.L[i])
		}
		list := append(slices.Clip(x.L), e)
		x.L = list[:len(x.L)]
		l = append(l, func() bool { return reflect.DeepEqual(list[len(list)-1], e) })
	}
	row = func(rows *[]api.Stmt) {
		for i := range *rows {
			expr(&(*rows)[i].E)
			row(&(*rows)[i].L)
			row(&(*rows)[i].Else)
		}
		list := append(slices.Clip(*rows), s)
		*rows = list[:len(*rows)]
		l = append(l, func() bool { return reflect.DeepEqual(list[len(list)-1], s) })
	}
	for i := range mods {
		m := &mods[i]
		for k := range m.Fns {
			f := &m.Fns[k]
			row(&f.Body)
			expr(&f.Ret)
			params, names := append(slices.Clip(f.Params), api.Var{Name: "a"}, api.Var{Name: "a"}), append(slices.Clip(f.Row.L), api.Name{Name: "none"})
			f.Params, f.Row.L = params[:len(f.Params)], names[:len(f.Row.L)]
			l = append(l, func() bool { return params[len(params)-1].Name == "a" && names[len(names)-1].Name == "none" })
		}
		vars, fns := append(slices.Clip(m.Vars), api.Var{Name: "none"}), append(slices.Clip(m.Fns), api.Fn{Name: "none"})
		m.Vars, m.Fns = vars[:len(m.Vars)], fns[:len(m.Fns)]
		l = append(l, func() bool { return vars[len(vars)-1].Name == "none" && fns[len(fns)-1].Name == "none" })
	}
	return func() bool { return !slices.ContainsFunc(l, func(f func() bool) bool { return !f() }) }
}

// spoil writes over all that lists have, and what is behind them in their memory.
func spoil(v reflect.Value) {
	switch v.Kind() {
	case reflect.Struct:
		for i := range v.NumField() {
			spoil(v.Field(i))
		}
	case reflect.Slice:
		whole := v.Slice(0, v.Cap())
		for i := range whole.Len() {
			spoil(whole.Index(i))
			whole.Index(i).SetZero()
		}
	}
}

// TestMemory looks whether a call changes what it is handed or reads what lies behind it, and whether an answer hangs on what is done with it, or with another answer.
func TestMemory(t *testing.T) {
	right := 0
	for seed := range uint64(300) {
		make := func() ([]string, []api.Module) {
			k := &maker{Rand: rand.New(rand.NewPCG(seed, 19)), wrong: []int{20, 1 << 30}[seed%2], any: seed%3 == 0}
			return k.modules(3, 0)
		}
		names, kept := make()
		_, mods := make()
		s, _, _, e := scope.New(names, mods)
		if e != api.OK {
			t.Fatal(e)
		}
		there := behind(mods)
		p, in, at, e := bind.New(s, mods)
		want, first := (&model{names: names, mods: kept}).run()
		if (fault{in, at, e}) != first || !same(p, want) || !there() {
			t.Fatalf("%d: %+v, not %+v", seed, fault{in, at, e}, first)
		}
		for i := range mods {
			plain(reflect.ValueOf(&mods[i]).Elem())
			plain(reflect.ValueOf(&kept[i]).Elem())
		}
		if !reflect.DeepEqual(mods, kept) {
			t.Fatalf("%d: what is handed in was changed", seed)
		}
		if e != api.OK {
			continue
		}
		right++
		again, _, _, _ := bind.New(s, mods)
		spoil(reflect.ValueOf(&p).Elem())
		if !same(again, want) || !reflect.DeepEqual(mods, kept) {
			t.Fatalf("%d: an answer hangs on another one, or what is handed in on it", seed)
		}
		for i := range mods {
			spoil(reflect.ValueOf(&mods[i]).Elem())
		}
		if !same(again, want) {
			t.Fatalf("%d: an answer hangs on what was handed in", seed)
		}
	}
	if right < 50 {
		t.Error(right)
	}
}

// TestLists looks whether two lists of one answer share their memory.
func TestLists(t *testing.T) {
	right := 0
	for seed := range uint64(100) {
		k := &maker{Rand: rand.New(rand.NewPCG(seed, 20)), wrong: 1 << 30}
		names, mods := k.modules(3, 0)
		s, _, _, _ := scope.New(names, mods)
		p, _, _, e := bind.New(s, mods)
		if e != api.OK {
			continue
		}
		right++
		seen := map[uintptr]int{}
		var look func(v reflect.Value)
		look = func(v reflect.Value) {
			switch v.Kind() {
			case reflect.Struct:
				for i := range v.NumField() {
					look(v.Field(i))
				}
			case reflect.Slice:
				size := v.Type().Elem().Size()
				for i := range v.Cap() {
					seen[v.Pointer()+uintptr(i)*size]++
					if seen[v.Pointer()+uintptr(i)*size] > 1 {
						t.Fatalf("%d: two lists share their memory: %+v", seed, p)
					}
				}
				for i := range v.Len() {
					look(v.Index(i))
				}
			}
		}
		look(reflect.ValueOf(p))
	}
	if right < 50 {
		t.Error(right)
	}
}
