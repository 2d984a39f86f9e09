package tree

import (
	"strconv"
	"strings"

	"cloister/api"
	"cloister/label"
)

// writer is a builder that writes what is formed.
type writer struct {
	strings.Builder
}

// Text answers x as it is written.
func Text(x api.Expr) (string, api.Errno) {
	if !Formed(x) {
		return "", api.ErrForm
	}
	return text(&x), api.OK
}

// Print answers p as it is written.
func Print(p api.Program) (string, api.Errno) {
	if code := Check(p); code != api.OK {
		return "", code
	}
	var w writer
	for _, c := range p.Chiefs {
		w.line(0, "chief ", c, ";")
	}
	for _, pair := range p.Acts {
		w.line(0, "acts ", pair[0], " ", pair[1], ";")
	}
	for _, c := range p.Chans {
		way := "out "
		if c.In {
			way = "in "
		}
		w.line(0, way, c.Name, kind(c.Type, c.L), ";")
	}
	for i := range p.Procs {
		w.proc(&p.Procs[i])
	}
	return w.String(), api.OK
}

// line writes the parts, behind a tab for each of deep.
func (w *writer) line(deep int, parts ...string) {
	w.WriteString(strings.Repeat("\t", deep))
	w.parts(parts...)
	w.WriteByte('\n')
}

// parts writes one behind the other.
func (w *writer) parts(parts ...string) {
	for _, s := range parts {
		w.WriteString(s)
	}
}

// proc writes a procedure.
func (w *writer) proc(p *api.Proc) {
	var params []string
	for _, q := range p.Params {
		params = append(params, q.Name+kind(q.Type, q.L))
	}
	result, begin, by := "", "", ""
	if p.Result.Type != api.None {
		result = kind(p.Result.Type, p.Result.L)
	}
	if len(p.Begin) > 0 {
		begin = " begin " + labelText(p.Begin)
	}
	if len(p.For) > 0 {
		by = " for " + strings.Join(p.For, ", ")
	}
	w.line(0, "proc ", p.Name, "(", strings.Join(params, ", "), ")", result, begin, by, " {")
	w.block(p.Body, 1)
	w.line(0, "}")
}

// block writes the statements l behind deep tabs.
func (w *writer) block(l []api.Stmt, deep int) {
	for i := range l {
		w.stmt(&l[i], deep)
	}
}

// stmt writes s behind deep tabs.
func (w *writer) stmt(s *api.Stmt, deep int) {
	e := text(&s.E)
	switch s.Kind {
	case api.Let:
		bears := ""
		if s.Labelled {
			bears = " " + labelText(s.L)
		}
		w.line(deep, "var ", s.Name, bears, " = ", e, ";")
	case api.Set:
		w.line(deep, s.Name, " = ", e, ";")
	case api.If:
		w.line(deep, "if ", e, " {")
		w.block(s.A, deep+1)
		if len(s.B) > 0 {
			w.line(deep, "} else {")
			w.block(s.B, deep+1)
		}
		w.line(deep, "}")
	case api.While:
		w.line(deep, "while ", e, " {")
		w.block(s.A, deep+1)
		w.line(deep, "}")
	case api.Send:
		w.line(deep, "send ", s.Name, " ", e, ";")
	case api.Take:
		w.line(deep, "take ", s.Name, " ", s.Of, ";")
	case api.Do:
		w.line(deep, "do ", e, ";")
	case api.Return:
		w.line(deep, "return ", e, ";")
	}
}

// kind answers what stands behind a name: its type, and its label.
func kind(of int, l api.Label) string {
	word := ": int "
	if of == api.Bool {
		word = ": bool "
	}
	return word + labelText(l)
}

// labelText answers l, which is formed, as it is written.
func labelText(l api.Label) string {
	s, _ := label.Print(l)
	return s
}

// text answers x, which is formed, as it is written.
func text(x *api.Expr) string {
	var w writer
	w.expr(x)
	return w.String()
}

// expr writes x.
func (w *writer) expr(x *api.Expr) {
	switch x.Kind {
	case api.Lit:
		w.WriteString(number(x.Type, x.N))
	case api.Var:
		w.WriteString(x.Name)
	case api.Op:
		w.op(x)
	case api.Call:
		w.parts(x.Name, "(")
		for i := range x.A {
			if i > 0 {
				w.WriteString(", ")
			}
			w.expr(&x.A[i])
		}
		w.WriteString(")")
	case api.Release:
		w.WriteString("release(")
		w.expr(&x.A[0])
		w.parts(" to ", labelText(x.L), ")")
	}
}

// number answers n as it is written.
func number(kind, n int) string {
	if kind == api.Bool {
		return strconv.FormatBool(n == 1)
	}
	return strconv.Itoa(n)
}

// op writes a sign, and what stands with it.
func (w *writer) op(x *api.Expr) {
	level := Level(x.Name)
	if len(x.A) == 1 {
		w.WriteString(x.Name)
		w.bound(&x.A[0], len(levels)+1)
		return
	}
	w.bound(&x.A[0], level)
	w.parts(" ", x.Name, " ")
	// Signs of one Level are read from the left.
	w.bound(&x.A[1], level+1)
}

// bound writes x, in brackets if it binds two less closely than by least.
func (w *writer) bound(x *api.Expr, least int) {
	if x.Kind == api.Op && len(x.A) == 2 && Level(x.Name) < least {
		w.WriteString("(")
		w.expr(x)
		w.WriteString(")")
		return
	}
	w.expr(x)
}
