package check

import (
	"slices"
	"strings"

	"cloister/api"
)

// most is how many statements and expressions are laid anew wherever they are
// met. One list may lie in many places, even within itself, so that there is no
// end of it: behind so many a list that has been laid, and would be the same
// again, is taken as it lies.
const most = 100000

// spot is where a list lies, and how many labels are left when it is met.
type spot[T any] struct {
	first   *T
	n, left int
}

// laid is a list of statements that has been laid, and the labels that are
// left behind it.
type laid struct {
	l    []api.Stmt
	left []api.Label
}

// filler lays statements anew, and gives labels to their Lets. What lies within
// is put aside and comes later, so that calls don't go as deep as what is laid.
type filler struct {
	left   []api.Label
	count  int // how many statements and expressions have been laid
	later  []func()
	blocks map[spot[api.Stmt]]*laid
	lists  map[spot[api.Expr]][]api.Expr
}

// newFiller answers one that has laid nothing, with the labels have.
func newFiller(have []api.Label) *filler {
	return &filler{left: have, blocks: map[spot[api.Stmt]]*laid{}, lists: map[spot[api.Expr]][]api.Expr{}}
}

// proc answers p laid anew.
func (f *filler) proc(p api.Proc) api.Proc {
	out := api.Proc{
		At:     p.At,
		Name:   strings.Clone(p.Name),
		Params: each(p.Params, copyParam),
		Result: copyParam(p.Result),
		Begin:  copyLabel(p.Begin),
		For:    copyNames(p.For),
	}
	f.block(p.Body, &out.Body)
	f.all()
	return out
}

// aside keeps what is to be done: ahead of what has been put aside before.
func (f *filler) aside(step func()) {
	f.later = append(f.later, step)
}

// all does what has been put aside, and what is put aside meanwhile.
func (f *filler) all() {
	for len(f.later) > 0 {
		last := len(f.later) - 1
		step := f.later[last]
		f.later = f.later[:last]
		step()
	}
}

// block lays the statements l anew, and puts them where to says.
func (f *filler) block(l []api.Stmt, to *[]api.Stmt) {
	if len(l) == 0 {
		return
	}
	at := spot[api.Stmt]{first: &l[0], n: len(l), left: len(f.left)}
	if b, ok := f.blocks[at]; ok && f.count > most {
		*to, f.left = b.l, b.left
		return
	}
	// Until it is known what is left behind it, nothing is: if l is met within
	// itself, with no Let between, no number is that of a Let behind it.
	b := &laid{l: make([]api.Stmt, len(l))}
	f.blocks[at] = b
	f.count += len(l)
	*to = b.l
	f.aside(func() { b.left = f.left })
	for i := range slices.Backward(l) {
		f.aside(func() { f.stmt(&l[i], &b.l[i]) })
	}
}

// stmt lays s anew, where to says.
func (f *filler) stmt(s, to *api.Stmt) {
	*to = api.Stmt{
		Kind:     s.Kind,
		At:       s.At,
		Name:     strings.Clone(s.Name),
		Of:       strings.Clone(s.Of),
		Labelled: s.Labelled,
		L:        copyLabel(s.L),
		E:        f.expr(s.E),
	}
	if s.Kind == api.Let && !s.Labelled {
		to.Labelled, to.L = true, f.next()
	}
	f.aside(func() { f.block(s.B, &to.B) })
	f.aside(func() { f.block(s.A, &to.A) })
}

// next answers the next label of those that are left: an empty one, if none is.
func (f *filler) next() api.Label {
	if len(f.left) == 0 {
		return nil
	}
	l := f.left[0]
	f.left = f.left[1:]
	return copyLabel(l)
}

// expr answers x laid anew.
func (f *filler) expr(x api.Expr) api.Expr {
	x.Name, x.L, x.A = strings.Clone(x.Name), copyLabel(x.L), f.exprs(x.A)
	return x
}

// exprs answers l, which is laid anew later.
func (f *filler) exprs(l []api.Expr) []api.Expr {
	if len(l) == 0 {
		return nil
	}
	// Expressions have no Lets: they are the same, whatever is left.
	at := spot[api.Expr]{first: &l[0], n: len(l)}
	if out, ok := f.lists[at]; ok && f.count > most {
		return out
	}
	out := make([]api.Expr, len(l))
	f.lists[at] = out
	f.count += len(l)
	f.aside(func() {
		for i := range l {
			out[i] = f.expr(l[i])
		}
	})
	return out
}
