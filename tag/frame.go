package tag

import (
	"slices"

	"cloister/api"
	"cloister/run"
)

// number is one that bears a label.
type number struct {
	n     int
	bears mark
}

// frame is a procedure that has been called, and what is there in it.
type frame struct {
	*runner
	deep int  // within how many other calls
	pc   mark // what it bears that this place is reached
	vars []variable
	back number // what is given back
}

// variable is one that is there. Its number is got and put by its closures
// alone.
type variable struct {
	name string
	get  func() number
	put  func(number)
}

// newVariable answers one that is v.
func newVariable(name string, v number) variable {
	return variable{
		name: name,
		get:  func() number { return v },
		put:  func(w number) { v = w },
	}
}

// do calls p, which then lies within deep other calls, where PC is pc, and
// answers what is given back: 0 that bears nothing, if nothing is.
func (r *runner) do(p *api.Proc, args []number, pc mark, deep int) number {
	if deep == api.MaxCalls {
		panic(stop{})
	}
	f := &frame{runner: r, deep: deep, pc: pc}
	for i, q := range p.Params {
		f.vars = append(f.vars, newVariable(q.Name, f.here(args[i])))
	}
	for i := range p.Body {
		f.stmt(&p.Body[i])
	}
	return f.back
}

// here answers v as it is if it is put, told or handed on here: whoever learns
// it learns that this place is reached, too.
func (f *frame) here(v number) number {
	v.bears = f.join(v.bears, f.pc)
	return v
}

// within does the statements l of a block, which is reached since e is what it
// is: what they make is there to its end.
func (f *frame) within(l []api.Stmt, e number) {
	vars, pc := len(f.vars), f.pc
	f.pc = f.here(e).bears
	for i := range l {
		f.stmt(&l[i])
	}
	f.vars, f.pc = f.vars[:vars], pc
}

// stmt does s. A Return is the last one of its procedure, so that nothing is
// to be left out behind it.
func (f *frame) stmt(s *api.Stmt) {
	f.step()
	switch s.Kind {
	case api.Let:
		f.vars = append(f.vars, newVariable(s.Name, f.here(f.value(&s.E))))
	case api.Set:
		f.find(s.Name).put(f.here(f.value(&s.E)))
	case api.If:
		if e := f.value(&s.E); e.n != 0 {
			f.within(s.A, e)
		} else {
			f.within(s.B, e)
		}
	case api.While:
		for e := f.value(&s.E); e.n != 0; e = f.value(&s.E) {
			f.within(s.A, e)
		}
	case api.Send:
		f.event(s.Name, f.here(f.value(&s.E)))
	case api.Take:
		f.find(s.Name).put(f.here(f.take(s.Of)))
	case api.Do:
		f.value(&s.E)
	case api.Return:
		f.back = f.here(f.value(&s.E))
	}
}

// value answers what x comes to.
func (f *frame) value(x *api.Expr) number {
	f.step()
	switch x.Kind {
	case api.Var:
		return f.find(x.Name).get()
	case api.Op:
		return f.op(x)
	case api.Call:
		return f.do(f.proc(x.Name), f.values(x.A), f.pc, f.deep+1)
	case api.Release:
		// It says so by its own label, whatever was borne, and wherever it is.
		v := number{n: f.value(&x.A[0]).n, bears: f.mark(x.L)}
		f.event("", v)
		return v
	}
	return number{n: x.N}
}

// values answers what those of l come to, from the left.
func (f *frame) values(l []api.Expr) []number {
	var out []number
	for i := range l {
		out = append(out, f.value(&l[i]))
	}
	return out
}

// op answers what x comes to, a sign with one or two. Both are reckoned,
// whatever the first of them says.
func (f *frame) op(x *api.Expr) number {
	l := f.values(x.A)
	v := l[0]
	switch {
	case len(l) == 2:
		// Of a program that scope takes each sign of two has a Level.
		v.n, _ = run.Reckon(x.Name, l[0].n, l[1].n)
		v.bears = f.join(l[0].bears, l[1].bears)
	case x.Name == "!":
		v.n = 1 - v.n
	default:
		v.n = -v.n
	}
	return v
}

// find answers the variable of that name, which is there.
func (f *frame) find(name string) variable {
	i := slices.IndexFunc(f.vars, func(v variable) bool { return v.name == name })
	return f.vars[i]
}
