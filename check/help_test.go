package check

import (
	"fmt"
	"slices"
	"strings"
	"testing"

	"cloister/api"
	"cloister/flow"
	"cloister/label"
	"cloister/parse"
)

// marked answers a text without its mark, and the byte where that stood.
func marked(t *testing.T, s string) (string, int) {
	t.Helper()
	ahead, behind, ok := strings.Cut(s, "①")
	if !ok || strings.Contains(behind, "①") {
		t.Fatalf("%q has no mark, or more than one", s)
	}
	return ahead + behind, len(ahead)
}

// read answers the program of a text.
func read(t *testing.T, s string) api.Program {
	t.Helper()
	p, f := parse.Program(s)
	if f.Code != api.OK {
		t.Fatalf("%q: %v", s, f)
	}
	return p
}

// labs: the labels of `{a:} {b:}`.
func labs(t *testing.T, s string) []api.Label {
	t.Helper()
	var l []api.Label
	for _, one := range strings.Fields(s) {
		x, f := parse.Label(one)
		if f.Code != api.OK {
			t.Fatalf("%q: %v", one, f)
		}
		l = append(l, x)
	}
	return l
}

// lets: the names and labels of all Lets of p, in the order of their numbers; ?: it isn't Labelled.
func lets(p api.Program) string {
	var out []string
	for _, q := range p.Procs {
		out = append(out, letsWithin(q.Body)...)
	}
	return strings.Join(out, " ")
}

func letsWithin(l []api.Stmt) []string {
	var out []string
	for _, s := range l {
		if s.Kind == api.Let {
			text, _ := label.Print(s.L)
			if !s.Labelled {
				text = "?" + text
			}
			out = append(out, s.Name+text)
		}
		out = append(append(out, letsWithin(s.A)...), letsWithin(s.B)...)
	}
	return out
}

// whole tells all of x, with the places, in which lists of nothing are alike.
func whole(x any) string { return fmt.Sprintf("%+v", x) }

// Expressions and statements.

func v(s string) api.Expr { return api.Expr{Kind: api.Var, Name: s} }

func num(n int) api.Expr { return api.Expr{Kind: api.Lit, Type: api.Int, N: n} }

func bit(n int) api.Expr { return api.Expr{Kind: api.Lit, Type: api.Bool, N: n} }

func op(s string, l ...api.Expr) api.Expr { return api.Expr{Kind: api.Op, Name: s, A: l} }

func let(s string) api.Stmt { return api.Stmt{Kind: api.Let, Name: s, E: num(1)} }

func when(l ...api.Stmt) api.Stmt { return api.Stmt{Kind: api.If, E: bit(1), A: l} }

// prog: a program of a main with these statements.
func prog(l ...api.Stmt) api.Program {
	return api.Program{Chiefs: []string{"a", "b"}, Procs: []api.Proc{{Name: "main", Body: l}}}
}

// owners: a label of each of these.
func owners(l ...string) []api.Label {
	var out []api.Label
	for _, s := range l {
		out = append(out, api.Label{{Owner: s}})
	}
	return out
}

// What the chapter says, by other means.

// fill answers what Filled should of a program that isn't too large: it takes from have what it has given.
func fill(p api.Program, have []api.Label) api.Program {
	p.Procs = slices.Clone(p.Procs)
	for i := range p.Procs {
		p.Procs[i].Body = fillWithin(p.Procs[i].Body, &have)
	}
	return p
}

func fillWithin(l []api.Stmt, have *[]api.Label) []api.Stmt {
	l = slices.Clone(l)
	for i := range l {
		s := &l[i]
		if s.Kind == api.Let && !s.Labelled {
			s.Labelled, s.L = true, nil
			if len(*have) > 0 {
				s.L, *have = (*have)[0], (*have)[1:]
			}
		}
		s.A = fillWithin(s.A, have)
		s.B = fillWithin(s.B, have)
	}
	return l
}

// court says of the bounds of a program what chapter 8 does, by the calls of chapter 3.
type court struct {
	chiefs []string
	acts   [][2]string
}

// must: chapter 3 tells no error.
func must[T any](x T, code api.Errno) T {
	if code != api.OK {
		panic(fmt.Sprint("chapter 3 tells ", code))
	}
	return x
}

func (c court) flows(a, b api.Label) bool { return must(label.Flows(c.chiefs, c.acts, a, b)) }

func (c court) brings(b api.Bound, have []api.Label) api.Label {
	l := b.L
	for _, i := range b.From {
		l = must(label.Join(c.chiefs, c.acts, l, have[i]))
	}
	return must(label.Less(c.chiefs, c.acts, l, b.For))
}

// holds: do the labels have hold b?
func (c court) holds(b api.Bound, have []api.Label) bool {
	to := b.Into
	if b.To != -1 {
		to = have[b.To]
	}
	return c.flows(c.brings(b, have), to)
}

// least adds to empty labels what bounds bring, until nothing is new.
func (c court) least(n int, l []api.Bound) []api.Label {
	have := make([]api.Label, n)
	for changed := true; changed; {
		changed = false
		for _, b := range l {
			if b.To != -1 && !c.holds(b, have) {
				have[b.To] = must(label.Join(c.chiefs, c.acts, have[b.To], c.brings(b, have)))
				changed = true
			}
		}
	}
	return have
}

// right answers the fault that Program should, and if there is none the labels.
func right(p api.Program) ([]api.Label, api.Fault) {
	n, _, l, f := flow.Bounds(p)
	if f.Code != api.OK {
		return nil, f
	}
	c := court{p.Chiefs, p.Acts}
	have := c.least(n, l)
	for _, b := range l {
		switch {
		case c.holds(b, have):
		case len(b.For) > 0:
			return nil, api.Fault{Code: api.ErrMay, At: b.At}
		default:
			return nil, api.Fault{Code: api.ErrFlow, At: b.At}
		}
	}
	return have, api.Fault{}
}

// every answers all labels of policies of two chiefs, none with its Owner among its Readers.
func every(a, b string) []api.Label {
	policies := api.Label{{Owner: a}, {Owner: a, Readers: []string{b}}, {Owner: b}, {Owner: b, Readers: []string{a}}}
	out := []api.Label{nil}
	for _, p := range policies {
		for _, l := range out {
			out = append(out, append(slices.Clone(l), p))
		}
	}
	return out
}

// thrower answers numbers that look as if by chance, the same ones each time.
type thrower struct{ state uint64 }

func dice(seed int) *thrower { return &thrower{uint64(seed)*2654435761 + 1} }

func (d *thrower) roll(n int) int {
	d.state = d.state*6364136223846793005 + 1442695040888963407
	return int((d.state >> 33) % uint64(n))
}

func (d *thrower) one(of ...string) string { return of[d.roll(len(of))] }

func (d *thrower) kind() int { return api.Int + d.roll(2) }

// maker makes programs in which names and types are right. Each thing has a byte of its own.
type maker struct {
	*thrower
	chiefs int  // how many there are at most
	shared bool // lists are laid elsewhere, too
	long   int  // how many statements a list has, one less
	at     int
	p      api.Program
	vars   []api.Param
	lists  [][]api.Stmt
}

// here answers a byte; they neither rise nor begin at 0.
func (m *maker) here() int {
	m.at++
	return 5000 - 3*m.at
}

func (m *maker) program() api.Program {
	m.p.Chiefs = []string{"c", "a", "b", "d"}[:1+m.roll(m.chiefs)]
	for range m.roll(3) {
		m.p.Acts = append(m.p.Acts, [2]string{m.who(), m.who()})
	}
	for _, name := range []string{"i", "j", "o", "p"} {
		m.p.Chans = append(m.p.Chans, api.Chan{At: m.here(), Name: name, In: name < "k", Type: m.kind(), L: m.label()})
	}
	for _, name := range []string{"f", "main", "g"} {
		m.p.Procs = append(m.p.Procs, m.head(name))
	}
	for i := range m.p.Procs {
		m.body(&m.p.Procs[i])
	}
	return m.p
}

func (m *maker) who() string { return m.p.Chiefs[m.roll(len(m.p.Chiefs))] }

// label makes one to which all may go, one that may go to all, or another one.
func (m *maker) label() api.Label {
	switch m.roll(8) {
	case 0, 1, 2, 3, 4:
		var l api.Label
		for _, c := range m.p.Chiefs {
			l = append(l, api.Policy{Owner: c})
		}
		return l
	case 5:
		return nil
	}
	var l api.Label
	for range 1 + m.roll(2) {
		p := api.Policy{Owner: m.who()}
		for range m.roll(3) {
			p.Readers = append(p.Readers, m.who())
		}
		l = append(l, p)
	}
	return l
}

func (m *maker) head(name string) api.Proc {
	p := api.Proc{At: m.here(), Name: name}
	if name != "main" {
		p.Begin = m.label()
		for _, s := range []string{"x", "q", "y", "i"}[:m.roll(4)] {
			p.Params = append(p.Params, api.Param{Name: s, Type: m.kind(), L: m.label()})
		}
		p.Result.Type = m.roll(3)
	}
	if p.Result.Type != api.None {
		p.Result.L = m.label()
	}
	for range m.roll(3) {
		p.For = append(p.For, m.who())
	}
	return p
}

func (m *maker) body(p *api.Proc) {
	m.vars = slices.Clone(p.Params)
	p.Body = m.stmts(2)
	m.lists = append(m.lists, p.Body)
	if p.Result.Type != api.None {
		p.Body = append(p.Body, api.Stmt{Kind: api.Return, At: m.here(), E: m.expr(p.Result.Type, 2)})
	}
}

// block makes statements, or takes those that lie elsewhere.
func (m *maker) block(deep int) []api.Stmt {
	if m.shared && len(m.lists) > 0 && m.roll(3) == 0 {
		return m.lists[m.roll(len(m.lists))]
	}
	n := len(m.vars)
	l := m.stmts(deep)
	m.vars = m.vars[:n]
	m.lists = append(m.lists, l)
	return l
}

func (m *maker) stmts(deep int) []api.Stmt {
	var l []api.Stmt
	for range m.roll(m.long) {
		l = append(l, m.stmt(deep))
	}
	return l
}

func (m *maker) stmt(deep int) api.Stmt {
	s := api.Stmt{Kind: []int{api.Let, api.Let, api.Let, api.Set, api.Send, api.Take, api.Do, api.If, api.While}[m.roll(9)], At: m.here()}
	if deep == 0 && (s.Kind == api.If || s.Kind == api.While) {
		s.Kind = api.Let
	}
	switch s.Kind {
	case api.Set:
		if q, ok := m.variable(0); ok {
			s.Name, s.E = q.Name, m.expr(q.Type, 2)
			return s
		}
	case api.Send:
		c := m.p.Chans[2+m.roll(2)]
		s.Name, s.E = c.Name, m.expr(c.Type, 2)
		return s
	case api.Take:
		c := m.p.Chans[m.roll(2)]
		if q, ok := m.variable(c.Type); ok {
			s.Name, s.Of = q.Name, c.Name
			return s
		}
	case api.Do:
		s.E = m.call(&m.p.Procs[m.roll(len(m.p.Procs))], 2)
		return s
	case api.If, api.While:
		s.E, s.A = m.expr(api.Bool, 2), m.block(deep-1)
		if s.Kind == api.If {
			s.B = m.block(deep - 1)
		}
		return s
	}
	return m.let(s)
}

// let makes a variable that isn't there, or sets one.
func (m *maker) let(s api.Stmt) api.Stmt {
	free := slices.DeleteFunc([]string{"x", "y", "z", "q", "main", "i", "s", "t", "u"}, func(name string) bool {
		return slices.ContainsFunc(m.vars, func(q api.Param) bool { return q.Name == name })
	})
	if len(free) == 0 {
		q, _ := m.variable(0)
		s.Kind, s.Name, s.E = api.Set, q.Name, m.expr(q.Type, 2)
		return s
	}
	t := m.kind()
	s.Kind, s.Labelled = api.Let, m.roll(4) == 0
	if s.Labelled {
		s.L = m.label()
	}
	s.Name, s.E = m.one(free...), m.expr(t, 2)
	m.vars = append(m.vars, api.Param{Name: s.Name, Type: t})
	return s
}

// variable answers one of this type, 0: of any.
func (m *maker) variable(t int) (api.Param, bool) {
	l := slices.DeleteFunc(slices.Clone(m.vars), func(q api.Param) bool { return t != 0 && q.Type != t })
	if len(l) == 0 {
		return api.Param{}, false
	}
	return l[m.roll(len(l))], true
}

func (m *maker) call(p *api.Proc, deep int) api.Expr {
	x := api.Expr{Kind: api.Call, At: m.here(), Name: p.Name}
	for _, q := range p.Params {
		x.A = append(x.A, m.expr(q.Type, deep-1))
	}
	return x
}

// expr makes an expression of the type t.
func (m *maker) expr(t, deep int) api.Expr {
	x := api.Expr{At: m.here()}
	kinds := 5
	if deep <= 0 {
		kinds = 3
	}
	switch m.roll(kinds) {
	case 1, 2:
		if q, ok := m.variable(t); ok {
			x.Kind, x.Name = api.Var, q.Name
			return x
		}
	case 3:
		x.Kind, x.Name = api.Op, map[int]string{api.Int: "+", api.Bool: "&&"}[t]
		x.A = append(x.A, m.expr(t, deep-1), m.expr(t, deep-1))
		return x
	case 4:
		if p := &m.p.Procs[m.roll(len(m.p.Procs))]; p.Result.Type == t {
			return m.call(p, deep)
		}
		x.Kind, x.L, x.A = api.Release, m.label(), []api.Expr{m.expr(t, deep-1)}
		return x
	}
	x.Kind, x.Type, x.N = api.Lit, t, m.roll(2)
	return x
}

// Programs of no form.

func (d *thrower) anyName() string { return d.one("", "x", "main", "if", "\xff", "a b") }

func (d *thrower) anyNames() []string {
	var l []string
	for range d.roll(3) {
		l = append(l, strings.Clone(d.anyName()))
	}
	return l
}

func (d *thrower) anyLabel() api.Label {
	var l api.Label
	for range d.roll(3) {
		l = append(l, api.Policy{Owner: strings.Clone(d.anyName()), Readers: d.anyNames()})
	}
	return l
}

func (d *thrower) anyExprs(deep int) []api.Expr {
	var l []api.Expr
	for range d.roll(3) {
		x := api.Expr{Kind: d.roll(8) - 1, At: d.roll(9) - 4, N: d.roll(9) - 4, Type: d.roll(4), Name: d.anyName(), L: d.anyLabel()}
		if deep > 0 {
			x.A = d.anyExprs(deep - 1)
		}
		l = append(l, x)
	}
	return l
}

func (d *thrower) anyStmts(deep int) []api.Stmt {
	var l []api.Stmt
	for range d.roll(4) {
		s := api.Stmt{Kind: d.roll(11) - 1, At: d.roll(9) - 4, Name: d.anyName(), Of: d.anyName(), Labelled: d.roll(3) == 0, L: d.anyLabel()}
		if d.roll(2) == 0 {
			s.Kind = api.Let
		}
		for _, x := range d.anyExprs(2) {
			s.E = x
		}
		if deep > 0 {
			s.A, s.B = d.anyStmts(deep-1), d.anyStmts(deep-1)
		}
		l = append(l, s)
	}
	return l
}

func (d *thrower) anyParam() api.Param {
	return api.Param{Name: d.anyName(), Type: d.roll(4) - 1, L: d.anyLabel()}
}

// anything makes a program of any data.
func (d *thrower) anything() api.Program {
	p := api.Program{Chiefs: d.anyNames()}
	for range d.roll(3) {
		p.Acts = append(p.Acts, [2]string{d.anyName(), d.anyName()})
		p.Chans = append(p.Chans, api.Chan{At: d.roll(9) - 4, Name: d.anyName(), In: d.roll(2) == 0, Type: d.roll(4) - 1, L: d.anyLabel()})
	}
	for range d.roll(4) {
		q := api.Proc{At: d.roll(9) - 4, Name: d.anyName(), Result: d.anyParam(), Begin: d.anyLabel(), For: d.anyNames(), Body: d.anyStmts(d.roll(3))}
		for range d.roll(3) {
			q.Params = append(q.Params, d.anyParam())
		}
		p.Procs = append(p.Procs, q)
	}
	return p
}
