package scope

import (
	"slices"

	"cloister/api"
	"cloister/chief"
	"cloister/tree"
)

// program looks at all of it.
func (k *looker) program() {
	tell(tree.Check(*k.p), 0)
	tell(chief.Check(k.p.Chiefs, k.p.Acts), 0)
	for i := range k.p.Chans {
		k.chanHead(i)
	}
	for i := range k.p.Procs {
		k.procHead(i)
	}
	for i := range k.p.Procs {
		k.body(&k.p.Procs[i])
	}
	main := k.proc("main", 0)
	tellIf(len(main.Params) > 0 || main.Result.Type != api.None, api.ErrForm, main.At)
}

// chanHead looks at the i-th channel.
func (k *looker) chanHead(i int) {
	c := &k.p.Chans[i]
	tellIf(slices.ContainsFunc(k.p.Chans[:i], func(o api.Chan) bool { return o.Name == c.Name }), api.ErrTwice, c.At)
	k.label(c.L, c.At)
}

// procHead looks at the i-th procedure, but for its statements.
func (k *looker) procHead(i int) {
	p := &k.p.Procs[i]
	tellIf(slices.ContainsFunc(k.p.Procs[:i], func(o api.Proc) bool { return o.Name == p.Name }), api.ErrTwice, p.At)
	for j, q := range p.Params {
		tellIf(slices.ContainsFunc(p.Params[:j], func(o api.Param) bool { return o.Name == q.Name }), api.ErrTwice, p.At)
		k.label(q.L, p.At)
	}
	k.label(p.Result.L, p.At)
	k.label(p.Begin, p.At)
	for _, who := range p.For {
		tellIf(!slices.Contains(k.p.Chiefs, who), api.ErrWho, p.At)
	}
}

// body looks at the statements of p.
func (k *looker) body(p *api.Proc) {
	k.vars = slices.Clone(p.Params)
	last := len(p.Body) - 1
	for i := range p.Body {
		back := api.None
		if i == last {
			back = p.Result.Type
		}
		k.stmt(&p.Body[i], back)
	}
	returns := last >= 0 && p.Body[last].Kind == api.Return
	tellIf(p.Result.Type != api.None && !returns, api.ErrForm, p.At)
}

// stmt looks at s; back is the type that a Return gives back there, None where
// no Return may stand.
func (k *looker) stmt(s *api.Stmt, back int) {
	// Variables may have come or gone.
	k.known = known{}
	switch s.Kind {
	case api.Let:
		k.let(s)
	case api.Set:
		k.must(&s.E, k.variable(s.Name, s.At))
	case api.If, api.While:
		k.must(&s.E, api.Bool)
		k.within(s.A)
		k.within(s.B)
	case api.Send:
		k.must(&s.E, k.channel(s.Name, false, s.At))
	case api.Take:
		into := k.variable(s.Name, s.At)
		tellIf(k.channel(s.Of, true, s.At) != into, api.ErrType, s.At)
	case api.Do:
		k.call(&s.E)
	case api.Return:
		tellIf(back == api.None, api.ErrForm, s.At)
		k.must(&s.E, back)
	}
}

// let looks at s, and makes its variable.
func (k *looker) let(s *api.Stmt) {
	// What isn't Labelled has a label with nothing in it, which is right.
	k.label(s.L, s.At)
	t := k.typeOf(&s.E)
	tellIf(k.find(s.Name).there, api.ErrTwice, s.At)
	k.vars = append(k.vars, api.Param{Name: s.Name, Type: t})
}

// variable answers the type of the variable of that name, which stands at
// this byte.
func (k *looker) variable(name string, at int) int {
	v := k.find(name)
	tellIf(!v.there, api.ErrWho, at)
	return v.kind
}

// channel answers the type of the channel of that name that comes in, or goes
// out, as it stands at this byte.
func (k *looker) channel(name string, in bool, at int) int {
	i := slices.IndexFunc(k.p.Chans, func(c api.Chan) bool { return c.Name == name && c.In == in })
	tellIf(i < 0, api.ErrWho, at)
	return k.p.Chans[i].Type
}

// proc answers the procedure of that name, as it is asked for at this byte.
func (k *looker) proc(name string, at int) *api.Proc {
	i := slices.IndexFunc(k.p.Procs, func(p api.Proc) bool { return p.Name == name })
	tellIf(i < 0, api.ErrWho, at)
	return &k.p.Procs[i]
}
