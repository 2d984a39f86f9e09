package fold

import (
	"slices"
	"strings"

	"cloister/api"
	"cloister/run"
	"cloister/tree"
)

// maxNumber is the greatest number that can be written.
const maxNumber = 999999999

// expr answers x folded.
func (f *folder) expr(x api.Expr) api.Expr {
	x.Name, x.L, x.A = strings.Clone(x.Name), f.label(x.L), f.exprs(x.A)
	if x.Kind != api.Op || slices.ContainsFunc(x.A, func(y api.Expr) bool { return y.Kind != api.Lit }) {
		return x
	}
	n := value(x)
	if n < 0 || n > maxNumber {
		return x
	}
	return api.Expr{Kind: api.Lit, At: x.At, N: n, Type: kind(x.Name)}
}

// exprs answers l folded, one by one.
func (f *folder) exprs(l []api.Expr) []api.Expr {
	return laid(f, f.lists, l, func(x api.Expr) (api.Expr, bool) { return f.expr(x), true })
}

// value answers what x comes to, an Op of Lits.
func value(x api.Expr) int {
	if len(x.A) == 2 {
		n, _ := run.Reckon(x.Name, x.A[0].N, x.A[1].N)
		return n
	}
	if x.Name == "!" {
		return 1 - x.A[0].N
	}
	return -x.A[0].N
}

// kind answers the type of what an Op with that sign comes to.
func kind(sign string) int {
	if sign == "!" {
		return api.Bool
	}
	switch tree.Level(sign) {
	case 1, 2, 3:
		return api.Bool
	}
	return api.Int
}
