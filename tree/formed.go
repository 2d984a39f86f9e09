package tree

import (
	"slices"

	"cloister/api"
	"cloister/label"
	"cloister/scan"
)

// maxNumber is the greatest number that can be written.
const maxNumber = 999999999

// looker looks whether what it meets is formed, in each place once.
type looker struct {
	exprs map[place[api.Expr]]struct{}
	stmts map[place[api.Stmt]]struct{}
}

// Formed: can x be written?
func Formed(x api.Expr) bool {
	return newLooker().expr(&x, 0)
}

// Check tells what is wrong with the form of p.
func Check(p api.Program) api.Errno {
	if len(p.Chiefs) > api.MaxChiefs || len(p.Acts) > api.MaxActs ||
		len(p.Chans) > api.MaxChans || len(p.Procs) > api.MaxProcs {
		return api.ErrMany
	}
	if !names(p.Chiefs) {
		return api.ErrForm
	}
	for _, pair := range p.Acts {
		if !names(pair[:]) {
			return api.ErrForm
		}
	}
	for _, c := range p.Chans {
		if !hasType(c.Type) || !scan.Name(c.Name) || !labelFormed(c.L) {
			return api.ErrForm
		}
	}
	k := newLooker()
	for i := range p.Procs {
		if code := k.proc(&p.Procs[i]); code != api.OK {
			return code
		}
	}
	return api.OK
}

// newLooker answers one that has met nothing.
func newLooker() looker {
	return looker{exprs: map[place[api.Expr]]struct{}{}, stmts: map[place[api.Stmt]]struct{}{}}
}

// met: has l been met there? It is noted, if not.
func met[T any](places map[place[T]]struct{}, l []T, deep int) bool {
	at := placeOf(l, deep)
	_, ok := places[at]
	places[at] = struct{}{}
	return ok
}

// expr: is x formed, which lies within deep others?
func (k looker) expr(x *api.Expr, deep int) bool {
	if !exprAlone(x) {
		return false
	}
	if len(x.A) == 0 || met(k.exprs, x.A, deep+1) {
		return true
	}
	if deep+1 == api.MaxDeep {
		return false
	}
	for i := range x.A {
		if !k.expr(&x.A[i], deep+1) {
			return false
		}
	}
	return true
}

// exprAlone: is x formed, but for what lies within?
func exprAlone(x *api.Expr) bool {
	if x.Kind != api.Lit && (x.N != 0 || x.Type != api.None) {
		return false
	}
	if x.Kind != api.Release && len(x.L) > 0 {
		return false
	}
	switch x.Kind {
	case api.Lit:
		return numberFormed(x.Type, x.N) && x.Name == "" && len(x.A) == 0
	case api.Var:
		return scan.Name(x.Name) && len(x.A) == 0
	case api.Op:
		return len(x.A) == 2 && Level(x.Name) > 0 || len(x.A) == 1 && (x.Name == "-" || x.Name == "!")
	case api.Call:
		return scan.Name(x.Name) && len(x.A) <= api.MaxParams
	case api.Release:
		return labelFormed(x.L) && x.Name == "" && len(x.A) == 1
	}
	return false
}

// numberFormed: can n be written, of this type?
func numberFormed(kind, n int) bool {
	return kind == api.Int && 0 <= n && n <= maxNumber || kind == api.Bool && (n == 0 || n == 1)
}

// labelFormed: can l be written?
func labelFormed(l api.Label) bool {
	if _, code := label.Print(l); code != api.OK {
		return false
	}
	return !slices.ContainsFunc(l, func(p api.Policy) bool {
		return !scan.Name(p.Owner) || !names(p.Readers)
	})
}

// names: are all of l Names?
func names(l []string) bool {
	return !slices.ContainsFunc(l, func(s string) bool { return !scan.Name(s) })
}

// hasType: is it the type of something that is kept?
func hasType(kind int) bool { return kind == api.Int || kind == api.Bool }

// proc tells what is wrong with the form of p.
func (k looker) proc(p *api.Proc) api.Errno {
	if len(p.Params) > api.MaxParams || len(p.Body) > api.MaxBody || len(p.For) > api.MaxChiefs {
		return api.ErrMany
	}
	if !scan.Name(p.Name) || !names(p.For) || slices.ContainsFunc(p.Params, paramUnformed) {
		return api.ErrForm
	}
	if !resultFormed(p.Result) || !labelFormed(p.Begin) || !k.block(p.Body, 0) {
		return api.ErrForm
	}
	return api.OK
}

// paramUnformed: is p no Param of a procedure?
func paramUnformed(p api.Param) bool {
	return !scan.Name(p.Name) || !hasType(p.Type) || !labelFormed(p.L)
}

// resultFormed: is p what a procedure may give back?
func resultFormed(p api.Param) bool {
	if p.Type == api.None {
		return p.Name == "" && len(p.L) == 0
	}
	return p.Name == "" && hasType(p.Type) && labelFormed(p.L)
}

// block: are the statements l formed, which lie within deep others?
func (k looker) block(l []api.Stmt, deep int) bool {
	if len(l) > api.MaxBody {
		return false
	}
	if len(l) == 0 || met(k.stmts, l, deep) {
		return true
	}
	for i := range l {
		if !k.stmt(&l[i], deep) {
			return false
		}
	}
	return true
}

// stmt: is s formed, which lies within deep others?
func (k looker) stmt(s *api.Stmt, deep int) bool {
	nests := s.Kind == api.If || s.Kind == api.While
	// What would lie too deep lies within an If or a While that does.
	if nests && deep >= api.MaxDeep-1 || !nests && len(s.A) > 0 || s.Kind != api.If && len(s.B) > 0 {
		return false
	}
	if s.Labelled && s.Kind != api.Let || !s.Labelled && len(s.L) > 0 || !labelFormed(s.L) {
		return false
	}
	return namesFormed(s) && k.operand(s) && k.block(s.A, deep+1) && k.block(s.B, deep+1)
}

// namesFormed: has s the names that its Kind asks for?
func namesFormed(s *api.Stmt) bool {
	switch s.Kind {
	case api.Take:
		return scan.Name(s.Name) && scan.Name(s.Of)
	case api.Let, api.Set, api.Send:
		return scan.Name(s.Name) && s.Of == ""
	case api.If, api.While, api.Do, api.Return:
		return s.Name == "" && s.Of == ""
	}
	return false
}

// operand: has s the expression that its Kind asks for?
func (k looker) operand(s *api.Stmt) bool {
	switch s.Kind {
	case api.Take:
		return SameExpr(s.E, api.Expr{})
	case api.Do:
		return s.E.Kind == api.Call && k.expr(&s.E, 0)
	}
	return k.expr(&s.E, 0)
}
