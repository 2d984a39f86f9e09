package flow

import (
	"slices"

	"cloister/api"
)

// body walks through the statements of p.
func (w *walker) body(p *api.Proc) {
	w.by, w.vars, w.pc = p.For, nil, w.of(p.Begin)
	for _, q := range p.Params {
		w.vars = append(w.vars, variable{goal: into(q.L), name: q.Name, says: w.of(q.L)})
	}
	for i := range p.Body {
		w.stmt(&p.Body[i], &p.Result)
	}
}

// within walks through the statements l of a block, which are reached only if
// what e says lets them be: so each of them tells of it.
func (w *walker) within(l []api.Stmt, e sum) {
	vars, pc := len(w.vars), w.pc
	w.pc = join(pc, e)
	for i := range l {
		w.stmt(&l[i], nil)
	}
	w.vars, w.pc = w.vars[:vars], pc
}

// stmt walks through s; a Return goes into back.
func (w *walker) stmt(s *api.Stmt, back *api.Param) {
	// One list may lie in many places. Bounds can't be made more often than
	// they may be; what makes none of them need not be walked through again.
	if _, ok := w.quiet[s]; ok {
		return
	}
	before := len(w.bounds)
	switch s.Kind {
	case api.Let:
		w.let(s)
	case api.Set:
		w.put(&s.E, w.find(s.Name).goal, s.At)
	case api.If, api.While:
		e := w.says(&s.E)
		w.within(s.A, e)
		w.within(s.B, e)
	case api.Send:
		w.put(&s.E, into(w.channel(s.Name).L), s.At)
	case api.Take:
		w.take(s)
	case api.Do:
		w.call(&s.E)
	case api.Return:
		w.put(&s.E, into(back.L), s.At)
	}
	if len(w.bounds) == before {
		w.quiet[s] = struct{}{}
	}
}

// put lets what x says, and that it is said at all, go into g.
func (w *walker) put(x *api.Expr, g goal, at int) {
	w.goes(join(w.says(x), w.pc), g, at)
}

// let makes the variable of s.
func (w *walker) let(s *api.Stmt) {
	v := variable{goal: into(s.L), name: s.Name}
	if s.Labelled {
		v.says = w.of(s.L)
	} else {
		v.number = len(w.places)
		v.says = sum{v.number}
		w.places = append(w.places, s.At)
	}
	w.put(&s.E, v.goal, s.At)
	w.vars = append(w.vars, v)
}

// take lets what comes in at a channel go into a variable. Whoever reads the
// channel learns that something was taken.
func (w *walker) take(s *api.Stmt) {
	c := w.channel(s.Of)
	w.goes(w.pc, into(c.L), s.At)
	w.goes(join(w.of(c.L), w.pc), w.find(s.Name).goal, s.At)
}

// says answers what x says.
func (w *walker) says(x *api.Expr) sum {
	var all sum
	w.visit(x, func(s sum) { all = append(all, s...) })
	return rising(all)
}

// visit hands on to say what the parts of x say, from the left.
func (w *walker) visit(x *api.Expr, say func(sum)) {
	switch x.Kind {
	case api.Var:
		say(w.find(x.Name).says)
	case api.Op:
		for i := range x.A {
			w.visit(&x.A[i], say)
		}
	case api.Call:
		say(w.call(x))
	case api.Release:
		say(w.release(x))
	}
}

// release lets what is within x go into its label.
func (w *walker) release(x *api.Expr) sum {
	w.goes(w.says(&x.A[0]), into(x.L), x.At, w.by...)
	// Nobody's authority lets it be told that there is a release.
	w.goes(w.pc, into(x.L), x.At)
	return w.of(x.L)
}

// call lets the arguments of x go to what is called, and answers what it
// gives back.
func (w *walker) call(x *api.Expr) sum {
	i := slices.IndexFunc(w.p.Procs, func(p api.Proc) bool { return p.Name == x.Name })
	p := &w.p.Procs[i]
	for j, q := range p.Params {
		w.put(&x.A[j], into(q.L), x.A[j].At)
	}
	w.goes(w.pc, into(p.Begin), x.At)
	return w.of(p.Result.L)
}

// find answers the variable of that name, which is there.
func (w *walker) find(name string) *variable {
	i := slices.IndexFunc(w.vars, func(v variable) bool { return v.name == name })
	return &w.vars[i]
}

// channel answers the channel of that name, which is there.
func (w *walker) channel(name string) *api.Chan {
	i := slices.IndexFunc(w.p.Chans, func(c api.Chan) bool { return c.Name == name })
	return &w.p.Chans[i]
}
