package fold

import (
	"strings"

	"cloister/api"
)

// most is how much is laid anew wherever it is met: statements, expressions,
// and the names of their labels. One list may lie in so many places that there
// is no room for all of them: behind so much a list that has been folded is
// taken as it lies.
const most = 100000

// folder lays anew what it folds.
type folder struct {
	count  int // how much has been laid
	blocks map[spot[api.Stmt]][]api.Stmt
	lists  map[spot[api.Expr]][]api.Expr
}

// spot is where a list lies.
type spot[T any] struct {
	first *T
	n     int
}

// newFolder answers one that has laid nothing.
func newFolder() *folder {
	return &folder{blocks: map[spot[api.Stmt]][]api.Stmt{}, lists: map[spot[api.Expr]][]api.Expr{}}
}

// laid answers those of l that stay, as folded answers them. known has the
// lists that have been laid.
func laid[T any](f *folder, known map[spot[T]][]T, l []T, folded func(T) (T, bool)) []T {
	if len(l) == 0 {
		return nil
	}
	at := spot[T]{first: &l[0], n: len(l)}
	if out, ok := known[at]; ok && f.count > most {
		return out
	}
	f.count += len(l)
	var out []T
	for _, x := range l {
		if y, stays := folded(x); stays {
			out = append(out, y)
		}
	}
	known[at] = out
	return out
}

// label answers l in memory of its own.
func (f *folder) label(l api.Label) api.Label {
	for _, p := range l {
		f.count += 1 + len(p.Readers)
	}
	return copyLabel(l)
}

// each answers what is made of those of l, one by one, in memory of its own.
func each[T any](l []T, made func(T) T) []T {
	var out []T
	for _, x := range l {
		out = append(out, made(x))
	}
	return out
}

// copyNames answers l in memory of its own.
func copyNames(l []string) []string {
	return each(l, strings.Clone)
}

// copyPair answers p in memory of its own.
func copyPair(p [2]string) [2]string {
	return [2]string{strings.Clone(p[0]), strings.Clone(p[1])}
}

// copyLabel answers l in memory of its own.
func copyLabel(l api.Label) api.Label {
	return each(l, func(p api.Policy) api.Policy {
		return api.Policy{Owner: strings.Clone(p.Owner), Readers: copyNames(p.Readers)}
	})
}

// copyChan answers c in memory of its own.
func copyChan(c api.Chan) api.Chan {
	c.Name, c.L = strings.Clone(c.Name), copyLabel(c.L)
	return c
}

// copyParam answers p in memory of its own.
func copyParam(p api.Param) api.Param {
	p.Name, p.L = strings.Clone(p.Name), copyLabel(p.L)
	return p
}
