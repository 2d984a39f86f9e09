package scope

import "cloister/api"

// known has the types of expressions, while the same variables are there: one
// list may lie in many places of an expression.
type known map[*api.Expr]int

// must looks at x, which must have the type t.
func (k *looker) must(x *api.Expr, t int) {
	tellIf(k.typeOf(x) != t, api.ErrType, x.At)
}

// allMust looks at l, which must all have the type t.
func (k *looker) allMust(l []api.Expr, t int) {
	for i := range l {
		k.must(&l[i], t)
	}
}

// typeOf answers the type of x.
func (k *looker) typeOf(x *api.Expr) int {
	t, ok := k.known[x]
	if !ok {
		t = k.newType(x)
		k.known[x] = t
	}
	return t
}

// newType answers the type of x, which isn't known.
func (k *looker) newType(x *api.Expr) int {
	switch x.Kind {
	case api.Var:
		return k.variable(x.Name, x.At)
	case api.Op:
		return k.op(x)
	case api.Call:
		back := k.call(x).Result.Type
		tellIf(back == api.None, api.ErrType, x.At)
		return back
	case api.Release:
		k.label(x.L, x.At)
		return k.typeOf(&x.A[0])
	}
	return x.Type
}

// call looks at x, a call, and answers what is called.
func (k *looker) call(x *api.Expr) *api.Proc {
	p := k.proc(x.Name, x.At)
	tellIf(len(x.A) != len(p.Params), api.ErrForm, x.At)
	for i, q := range p.Params {
		k.must(&x.A[i], q.Type)
	}
	return p
}

// op answers the type of x, a sign with one or two.
func (k *looker) op(x *api.Expr) int {
	switch x.Name {
	case "==", "!=":
		k.must(&x.A[1], k.typeOf(&x.A[0]))
		return api.Bool
	case "<", "<=", ">", ">=":
		k.allMust(x.A, api.Int)
		return api.Bool
	case "!", "&&", "||":
		k.allMust(x.A, api.Bool)
		return api.Bool
	}
	k.allMust(x.A, api.Int)
	return api.Int
}
