package run

import (
	"slices"

	"cloister/api"
)

// frame is a procedure that has been called, and what is there in it.
type frame struct {
	*runner
	deep int // within how many other calls
	vars []variable
	back int // what is given back
}

// variable is one that is there. Its number is got and put by its closures
// alone.
type variable struct {
	name string
	get  func() int
	put  func(int)
}

// newVariable answers one that is n.
func newVariable(name string, n int) variable {
	return variable{
		name: name,
		get:  func() int { return n },
		put:  func(m int) { n = m },
	}
}

// do calls p, which then lies within deep other calls, and answers what is
// given back: 0, if nothing is.
func (r *runner) do(p *api.Proc, args []int, deep int) int {
	if deep == api.MaxCalls {
		panic(stop{})
	}
	f := &frame{runner: r, deep: deep}
	for i, q := range p.Params {
		f.vars = append(f.vars, newVariable(q.Name, args[i]))
	}
	f.block(p.Body)
	return f.back
}

// block does the statements l: what they make is there to its end.
func (f *frame) block(l []api.Stmt) {
	vars := len(f.vars)
	for i := range l {
		f.stmt(&l[i])
	}
	f.vars = f.vars[:vars]
}

// stmt does s. A Return is the last one of its procedure, so that nothing is
// to be left out behind it.
func (f *frame) stmt(s *api.Stmt) {
	f.step()
	switch s.Kind {
	case api.Let:
		f.vars = append(f.vars, newVariable(s.Name, f.value(&s.E)))
	case api.Set:
		f.find(s.Name).put(f.value(&s.E))
	case api.If:
		if f.value(&s.E) != 0 {
			f.block(s.A)
		} else {
			f.block(s.B)
		}
	case api.While:
		for f.value(&s.E) != 0 {
			f.block(s.A)
		}
	case api.Send:
		n := f.value(&s.E)
		f.event(s.Name, n, f.p.Chans[f.channel(s.Name)].L)
	case api.Take:
		f.find(s.Name).put(f.take(f.channel(s.Of)))
	case api.Do:
		f.value(&s.E)
	case api.Return:
		f.back = f.value(&s.E)
	}
}

// value answers what x comes to.
func (f *frame) value(x *api.Expr) int {
	f.step()
	switch x.Kind {
	case api.Var:
		return f.find(x.Name).get()
	case api.Op:
		return f.op(x)
	case api.Call:
		return f.do(f.proc(x.Name), f.values(x.A), f.deep+1)
	case api.Release:
		n := f.value(&x.A[0])
		f.event("", n, x.L)
		return n
	}
	return x.N
}

// values answers what those of l come to, from the left.
func (f *frame) values(l []api.Expr) []int {
	var out []int
	for i := range l {
		out = append(out, f.value(&l[i]))
	}
	return out
}

// op answers what x comes to, a sign with one or two. Both are reckoned,
// whatever the first of them says.
func (f *frame) op(x *api.Expr) int {
	l := f.values(x.A)
	switch {
	case len(l) == 2:
		// Of a program that scope takes each sign of two has a Level.
		n, _ := Reckon(x.Name, l[0], l[1])
		return n
	case x.Name == "!":
		return 1 - l[0]
	}
	return -l[0]
}

// find answers the variable of that name, which is there.
func (f *frame) find(name string) variable {
	i := slices.IndexFunc(f.vars, func(v variable) bool { return v.name == name })
	return f.vars[i]
}
