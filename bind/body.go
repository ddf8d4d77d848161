package bind

import "blazon/api"

// A block is what isn't gone through yet of a row of statements, where their acts come to stand, and how many names are visible in it so far.
type block struct {
	row  []api.Stmt
	acts []api.Act
	seen int
}

// A part is an expression that isn't gone through yet, and where its code comes to stand.
type part struct {
	e    *api.Expr
	code *api.Code
}

// room is room for so many things. A list without elements stays nil, as lists are that grow.
func room[T any](n int) []T {
	if n == 0 {
		return nil
	}
	return make([]T, n)
}

// acts are a body's acts; what its own block declares stays visible behind it. Blocks that aren't ended lie on a pile, since those that are handed in may be of any depth.
func (b *binder) acts(body []api.Stmt) (acts []api.Act) {
	pile := []block{b.begin(body, &acts)}
	for len(pile) > 0 {
		top := &pile[len(pile)-1]
		b.seen = b.seen[:top.seen:top.seen]
		if len(top.row) == 0 {
			pile = pile[:len(pile)-1]
			continue
		}
		s, a := &top.row[0], &top.acts[0]
		top.row, top.acts = top.row[1:], top.acts[1:]
		*a = b.act(s)
		top.seen = len(b.seen)
		switch s.Kind {
		case api.StmtIf:
			pile = append(pile, b.begin(s.Else, &a.Else), b.begin(s.L, &a.L))
		case api.StmtWhile:
			pile = append(pile, b.begin(s.L, &a.L))
		}
	}
	return acts
}

// begin makes room for the acts of a block.
func (b *binder) begin(row []api.Stmt, acts *[]api.Act) block {
	*acts = room[api.Act](len(row))
	return block{row, *acts, len(b.seen)}
}

// act is a statement's act, without the blocks in it. One of a kind that there is not keeps its kind, since none of the acts has that.
func (b *binder) act(s *api.Stmt) api.Act {
	a := api.Act{Kind: s.Kind, At: s.At}
	switch s.Kind {
	case api.StmtLet:
		a.Kind, a.E = api.ActSet, b.code(s.E)
		a.Site = b.declare(api.SiteLocal, api.Var{Name: s.Name, At: s.At, Type: s.Type, Ann: s.Ann})
	case api.StmtSet:
		a.Kind, a.Site = api.ActSet, b.find(s.Name, s.At)
		a.E = b.code(s.E)
	case api.StmtIf:
		a.Kind, a.E = api.ActIf, b.code(s.E)
	case api.StmtWhile:
		a.Kind, a.E = api.ActWhile, b.code(s.E)
	case api.StmtDo:
		a.Kind, a.Name = api.ActDo, s.Name
	case api.StmtCall:
		a.Kind, a.E = api.ActCall, b.code(s.E)
	}
	return a
}

// code is an expression's code. Parts lie on a pile, the next one on top, since expressions that are handed in may be of any depth.
func (b *binder) code(e api.Expr) (c api.Code) {
	pile := []part{{&e, &c}}
	for len(pile) > 0 {
		p := pile[len(pile)-1]
		pile = pile[:len(pile)-1]
		*p.code = b.head(p.e)
		for i := len(p.code.L) - 1; i >= 0; i-- {
			pile = append(pile, part{&p.e.L[i], &p.code.L[i]})
		}
	}
	return c
}

// head is an expression's code, with room for its parts. One of a kind that there is not keeps its kind and has its parts.
func (b *binder) head(e *api.Expr) api.Code {
	c := api.Code{Kind: e.Kind, At: e.At}
	switch e.Kind {
	case api.ExprNum:
		c.Kind, c.Num = api.CodeNum, e.Num
		return c
	case api.ExprBool:
		c.Kind, c.Num = api.CodeBool, e.Num
		return c
	case api.ExprName:
		c.Kind, c.Site = api.CodeSite, b.find(e.Name, e.At)
		return c
	case api.ExprCall:
		c.Kind, c.Fn = api.CodeCall, b.call(e.Name, e.At)
	case api.ExprUnary:
		c.Kind, c.Name = api.CodeUnary, e.Name
	case api.ExprBinary:
		c.Kind, c.Name = api.CodeBinary, e.Name
	case api.ExprOpen:
		c.Kind, c.Name = api.CodeOpen, e.Label
	}
	c.L = room[api.Code](len(e.L))
	return c
}
