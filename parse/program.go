package parse

import "cloister/api"

// program reads all that is left.
func (r *reader) program() api.Program {
	var p api.Program
	for len(r.left) > 0 {
		switch r.next().Text {
		case "chief":
			p.Chiefs = more(r, p.Chiefs, api.MaxChiefs, r.chief)
		case "acts":
			p.Acts = more(r, p.Acts, api.MaxActs, r.acts)
		case "in", "out":
			p.Chans = more(r, p.Chans, api.MaxChans, r.channel)
		case "proc":
			p.Procs = more(r, p.Procs, api.MaxProcs, r.proc)
		default:
			r.giveUp(api.ErrText)
		}
	}
	return p
}

// chief reads who is one.
func (r *reader) chief() string {
	r.must("chief")
	name := r.name()
	r.must(";")
	return name
}

// acts reads who acts for whom.
func (r *reader) acts() [2]string {
	r.must("acts")
	pair := [2]string{r.name(), r.name()}
	r.must(";")
	return pair
}

// channel reads a channel, whose first word is there.
func (r *reader) channel() api.Chan {
	way := r.take()
	p := r.param()
	r.must(";")
	return api.Chan{At: way.At, Name: p.Name, In: way.Text == "in", Type: p.Type, L: p.L}
}

// proc reads a procedure.
func (r *reader) proc() api.Proc {
	p := api.Proc{At: r.must("proc"), Name: r.name()}
	p.Params = enclosed(r, "(", ",", ")", api.MaxParams, r.param)
	if r.is(":") {
		p.Result = r.kind()
	}
	if r.may("begin") {
		p.Begin = r.label()
	}
	if r.may("for") {
		p.For = list(r, ",", api.MaxChiefs, r.name)
	}
	p.Body = r.block()
	return p
}

// param reads a name, and of which kind it is.
func (r *reader) param() api.Param {
	name := r.name()
	p := r.kind()
	p.Name = name
	return p
}

// kind reads a type and a label.
func (r *reader) kind() api.Param {
	r.must(":")
	of := api.Int
	if !r.may("int") {
		r.must("bool")
		of = api.Bool
	}
	return api.Param{Type: of, L: r.label()}
}

// label reads a label.
func (r *reader) label() api.Label {
	return enclosed(r, "{", ";", "}", api.MaxPolicies, r.policy)
}

// policy reads who owns, and whom they let read.
func (r *reader) policy() api.Policy {
	p := api.Policy{Owner: r.name()}
	r.must(":")
	if r.next().Kind == api.Name {
		p.Readers = list(r, ",", api.MaxChiefs, r.name)
	}
	return p
}

// block reads statements.
func (r *reader) block() []api.Stmt {
	r.must("{")
	defer r.in(&r.blocks)()
	var l []api.Stmt
	for !r.may("}") {
		l = more(r, l, api.MaxBody, r.stmt)
	}
	return l
}

// stmt reads a statement.
func (r *reader) stmt() api.Stmt {
	s := api.Stmt{At: r.at()}
	switch r.next().Text {
	case "if", "while":
		r.nest(&s)
		return s
	case "var":
		r.let(&s)
	case "send":
		r.take()
		s.Kind, s.Name, s.E = api.Send, r.name(), r.expr()
	case "take":
		r.take()
		s.Kind, s.Name, s.Of = api.Take, r.name(), r.name()
	case "do":
		r.take()
		s.Kind, s.E = api.Do, r.call(r.at(), r.name())
	case "return":
		r.take()
		s.Kind, s.E = api.Return, r.expr()
	default:
		s.Kind, s.Name = api.Set, r.name()
		r.must("=")
		s.E = r.expr()
	}
	r.must(";")
	return s
}

// nest reads a statement with blocks, whose first word is there.
func (r *reader) nest(s *api.Stmt) {
	s.Kind = api.While
	if r.take().Text == "if" {
		s.Kind = api.If
	}
	s.E, s.A = r.expr(), r.block()
	if s.Kind == api.If && r.may("else") {
		s.B = r.block()
	}
}

// let reads what begins a variable, whose first word is there.
func (r *reader) let(s *api.Stmt) {
	r.take()
	s.Kind, s.Name = api.Let, r.name()
	if r.is("{") {
		s.Labelled, s.L = true, r.label()
	}
	r.must("=")
	s.E = r.expr()
}
