package tree

import (
	"slices"

	"cloister/api"
)

// pair is two lists of n each, known by where they lie.
type pair[T any] struct {
	a, b *T
	n    int
}

// pairs has the lists that are still to be held against each other, and which
// have been put there: each two once, so that this ends even if a list lies
// within itself.
type pairs[T any] struct {
	open [][2][]T
	put  map[pair[T]]struct{}
}

// match holds two trees against each other. What lies within is put aside and
// comes later, so that calls don't go as deep as the trees.
type match struct {
	exprs pairs[api.Expr]
	stmts pairs[api.Stmt]
}

// SameExpr: are a and b the same, wherever they stand?
func SameExpr(a, b api.Expr) bool {
	var m match
	return m.expr(&a, &b) && m.rest()
}

// SameStmt: are a and b the same, wherever they stand?
func SameStmt(a, b api.Stmt) bool {
	var m match
	return m.stmt(&a, &b) && m.rest()
}

// Same: are a and b the same, wherever their parts stand?
func Same(a, b api.Program) bool {
	var m match
	return slices.Equal(a.Chiefs, b.Chiefs) && slices.Equal(a.Acts, b.Acts) &&
		slices.EqualFunc(a.Chans, b.Chans, sameChan) &&
		slices.EqualFunc(a.Procs, b.Procs, m.proc) && m.rest()
}

// add puts a and b aside; false: they aren't as many.
func (p *pairs[T]) add(a, b []T) bool {
	if len(a) != len(b) || len(a) == 0 {
		return len(a) == len(b)
	}
	at := pair[T]{a: &a[0], b: &b[0], n: len(a)}
	if _, ok := p.put[at]; ok || at.a == at.b {
		return true
	}
	if p.put == nil {
		p.put = map[pair[T]]struct{}{}
	}
	p.put[at] = struct{}{}
	p.open = append(p.open, [2][]T{a, b})
	return true
}

// all holds what has been put aside against each other, and what is put aside
// meanwhile.
func (p *pairs[T]) all(same func(a, b *T) bool) bool {
	for len(p.open) > 0 {
		last := len(p.open) - 1
		l := p.open[last]
		p.open = p.open[:last]
		for i := range l[0] {
			if !same(&l[0][i], &l[1][i]) {
				return false
			}
		}
	}
	return true
}

// expr: are a and b the same, but for what is put aside?
func (m *match) expr(a, b *api.Expr) bool {
	return a.Kind == b.Kind && a.N == b.N && a.Type == b.Type && a.Name == b.Name &&
		sameLabel(a.L, b.L) && m.exprs.add(a.A, b.A)
}

// stmt: are a and b the same, but for what is put aside?
func (m *match) stmt(a, b *api.Stmt) bool {
	return a.Kind == b.Kind && a.Name == b.Name && a.Of == b.Of && a.Labelled == b.Labelled &&
		sameLabel(a.L, b.L) && m.expr(&a.E, &b.E) && m.stmts.add(a.A, b.A) && m.stmts.add(a.B, b.B)
}

// proc: are a and b the same, but for what is put aside?
func (m *match) proc(a, b api.Proc) bool {
	return a.Name == b.Name && slices.EqualFunc(a.Params, b.Params, sameParam) &&
		sameParam(a.Result, b.Result) && sameLabel(a.Begin, b.Begin) &&
		slices.Equal(a.For, b.For) && m.stmts.add(a.Body, b.Body)
}

// rest: is all that has been put aside the same?
func (m *match) rest() bool {
	// The statements go first: they put expressions aside.
	return m.stmts.all(m.stmt) && m.exprs.all(m.expr)
}

// sameChan: are a and b the same, wherever they stand?
func sameChan(a, b api.Chan) bool {
	return a.Name == b.Name && a.In == b.In && a.Type == b.Type && sameLabel(a.L, b.L)
}

// sameParam: are a and b the same?
func sameParam(a, b api.Param) bool {
	return a.Name == b.Name && a.Type == b.Type && sameLabel(a.L, b.L)
}

// sameLabel: have a and b the same policies, in the same order?
func sameLabel(a, b api.Label) bool {
	return slices.EqualFunc(a, b, func(p, q api.Policy) bool {
		return p.Owner == q.Owner && slices.Equal(p.Readers, q.Readers)
	})
}
