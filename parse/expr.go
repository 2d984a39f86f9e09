package parse

import (
	"strconv"

	"cloister/api"
	"cloister/tree"
)

// lastLevel is the greatest Level of a sign: what is bound by it is primary.
const lastLevel = 5

// expr reads an expression.
func (r *reader) expr() api.Expr { return r.bound(1) }

// bound reads an expression of the signs from this Level on.
func (r *reader) bound(level int) api.Expr {
	if level > lastLevel {
		return r.primary()
	}
	x := r.bound(level + 1)
	for tree.Level(r.next().Text) == level {
		sign := r.take()
		x = api.Expr{Kind: api.Op, At: sign.At, Name: sign.Text, A: []api.Expr{x, r.bound(level + 1)}}
	}
	return x
}

// primary reads what no sign between two parts.
func (r *reader) primary() api.Expr {
	defer r.in(&r.primaries)()
	at := r.at()
	switch t := r.next(); {
	case t.Kind == api.Number:
		// Scan lets no number through that isn't one of Go's ints.
		n, _ := strconv.Atoi(r.take().Text)
		return api.Expr{Kind: api.Lit, At: at, Type: api.Int, N: n}
	case t.Kind == api.Name:
		return r.named()
	case t.Text == "release":
		return r.release()
	case t.Text == "-" || t.Text == "!":
		return api.Expr{Kind: api.Op, At: at, Name: r.take().Text, A: []api.Expr{r.primary()}}
	case r.may("true"):
		return api.Expr{Kind: api.Lit, At: at, Type: api.Bool, N: 1}
	case r.may("false"):
		return api.Expr{Kind: api.Lit, At: at, Type: api.Bool}
	}
	r.must("(")
	x := r.expr()
	r.must(")")
	return x
}

// named reads a variable or a call, whose name is there.
func (r *reader) named() api.Expr {
	at, name := r.at(), r.name()
	if r.is("(") {
		return r.call(at, name)
	}
	return api.Expr{Kind: api.Var, At: at, Name: name}
}

// call reads what stands behind the name of a call.
func (r *reader) call(at int, name string) api.Expr {
	return api.Expr{Kind: api.Call, At: at, Name: name, A: enclosed(r, "(", ",", ")", api.MaxParams, r.expr)}
}

// release reads a release.
func (r *reader) release() api.Expr {
	x := api.Expr{Kind: api.Release, At: r.must("release")}
	r.must("(")
	x.A = []api.Expr{r.expr()}
	r.must("to")
	x.L = r.label()
	r.must(")")
	return x
}
