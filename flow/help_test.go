package flow

import (
	"fmt"
	"maps"
	"slices"
	"strings"
	"testing"

	"cloister/api"
	"cloister/label"
	"cloister/parse"
	"cloister/scope"
)

// marks stand in texts ahead of what has their bytes.
const marks = "①②③④⑤⑥⑦⑧⑨⑩⑪⑫⑬⑭⑮⑯"

// read answers the program of a text without its marks, and what stands at the byte of each mark.
func read(t *testing.T, s string) (api.Program, map[int]string) {
	t.Helper()
	var text strings.Builder
	places := map[int]string{}
	for _, r := range s {
		if strings.ContainsRune(marks, r) {
			places[text.Len()] += string(r)
		} else {
			text.WriteRune(r)
		}
	}
	p, f := parse.Program(text.String())
	if f.Code != api.OK {
		t.Fatalf("%q: %v", s, f)
	}
	return p, places
}

// line: a bound as the tests write it: where, what, > into what, with whose authority.
func line(b api.Bound, places map[int]string) string {
	var words []string
	add := func(s string) { words = append(words, s) }
	add(places[b.At])
	for _, n := range b.From {
		add(fmt.Sprint(n))
	}
	if len(b.L) > 0 {
		add(text(b.L))
	}
	add(">")
	if b.To != -1 {
		add(fmt.Sprint(b.To))
	}
	if b.To == -1 || len(b.Into) > 0 {
		add(text(b.Into))
	}
	if len(b.For) > 0 {
		add("for " + strings.Join(b.For, ","))
	}
	return strings.Join(words, " ")
}

// lines: all of them, and ahead of them where the Lets are.
func lines(places []int, l []api.Bound, at map[int]string) string {
	var out []string
	for i, b := range places {
		out = append(out, fmt.Sprint(i, at[b]))
	}
	for _, b := range l {
		out = append(out, line(b, at))
	}
	return strings.Join(out, "; ")
}

func text(l api.Label) string {
	s, _ := label.Print(l)
	return s
}

// Expressions and statements.

func v(s string) api.Expr { return api.Expr{Kind: api.Var, Name: s} }

func num(n int) api.Expr { return api.Expr{Kind: api.Lit, Type: api.Int, N: n} }

func bit(n int) api.Expr { return api.Expr{Kind: api.Lit, Type: api.Bool, N: n} }

func op(s string, l ...api.Expr) api.Expr { return api.Expr{Kind: api.Op, Name: s, A: l} }

func let(s string, x api.Expr) api.Stmt { return api.Stmt{Kind: api.Let, Name: s, E: x} }

func set(s string, x api.Expr) api.Stmt { return api.Stmt{Kind: api.Set, Name: s, E: x} }

func when(l ...api.Stmt) api.Stmt { return api.Stmt{Kind: api.If, E: bit(1), A: l} }

// prog: a program of a main with these statements.
func prog(l ...api.Stmt) api.Program {
	return api.Program{Chiefs: []string{"a", "b"}, Procs: []api.Proc{{Name: "main", Body: l}}}
}

// thrower answers numbers that look as if by chance, the same ones each time.
type thrower struct{ state uint64 }

func dice(seed int) *thrower { return &thrower{uint64(seed)*2654435761 + 1} }

func (d *thrower) roll(n int) int {
	d.state = d.state*6364136223846793005 + 1442695040888963407
	return int((d.state >> 33) % uint64(n))
}

func (d *thrower) one(of ...string) string { return of[d.roll(len(of))] }

func (d *thrower) kind() int { return api.Int + d.roll(2) }

// maker makes programs that are right, but where a list is laid elsewhere, too. Each thing has a byte of its own.
type maker struct {
	*thrower
	shared bool // lists are laid elsewhere, too
	long   int  // how many statements a list may have
	at     int
	p      api.Program
	vars   []api.Param
	lists  [][]api.Stmt
}

// here answers a byte; they neither rise nor begin at 0.
func (m *maker) here() int {
	m.at++
	return 5000 - 3*m.at
}

func (m *maker) program() api.Program {
	m.p.Chiefs = []string{"c", "a", "b", "d"}[:1+m.roll(4)]
	for range m.roll(4) {
		m.p.Acts = append(m.p.Acts, [2]string{m.who(), m.who()})
	}
	for _, name := range []string{"i", "j", "o", "p", "main"}[:m.roll(6)] {
		m.p.Chans = append(m.p.Chans, api.Chan{At: m.here(), Name: name, In: name < "k", Type: m.kind(), L: m.label()})
	}
	for _, name := range []string{"f", "g", "main", "h", "i"}[:3+m.roll(3)] {
		m.p.Procs = append(m.p.Procs, m.head(name))
	}
	for i := range m.p.Procs {
		m.body(&m.p.Procs[i])
	}
	return m.p
}

func (m *maker) who() string { return m.p.Chiefs[m.roll(len(m.p.Chiefs))] }

func (m *maker) label() api.Label {
	var l api.Label
	for range m.roll(3) {
		p := api.Policy{Owner: m.who()}
		for range m.roll(3) {
			p.Readers = append(p.Readers, m.who())
		}
		l = append(l, p)
	}
	return l
}

func (m *maker) head(name string) api.Proc {
	p := api.Proc{At: m.here(), Name: name, Begin: m.label()}
	if name != "main" {
		for _, s := range []string{"x", "q", "y", "i"}[:m.roll(5)] {
			p.Params = append(p.Params, api.Param{Name: s, Type: m.kind(), L: m.label()})
		}
		p.Result.Type = m.roll(3)
	}
	if p.Result.Type != api.None {
		p.Result.L = m.label()
	}
	for range m.roll(3) {
		p.For = append(p.For, m.who())
	}
	return p
}

func (m *maker) body(p *api.Proc) {
	m.vars = slices.Clone(p.Params)
	p.Body = m.stmts(3)
	m.lists = append(m.lists, p.Body)
	if p.Result.Type != api.None {
		p.Body = append(p.Body, api.Stmt{Kind: api.Return, At: m.here(), E: m.expr(p.Result.Type, 2)})
	}
}

// block makes statements, or takes those that lie elsewhere.
func (m *maker) block(deep int) []api.Stmt {
	if m.shared && len(m.lists) > 0 && m.roll(4) == 0 {
		return m.lists[m.roll(len(m.lists))]
	}
	n := len(m.vars)
	l := m.stmts(deep)
	m.vars = m.vars[:n]
	m.lists = append(m.lists, l)
	return l
}

func (m *maker) stmts(deep int) []api.Stmt {
	var l []api.Stmt
	for range m.roll(m.long) {
		l = append(l, m.stmt(deep))
	}
	return l
}

func (m *maker) stmt(deep int) api.Stmt {
	s := api.Stmt{Kind: []int{api.Let, api.Let, api.Set, api.Send, api.Take, api.Do, api.If, api.If, api.While}[m.roll(9)], At: m.here()}
	if deep == 0 && (s.Kind == api.If || s.Kind == api.While) {
		s.Kind = api.Let
	}
	switch s.Kind {
	case api.Set:
		if q, ok := m.variable(0); ok {
			s.Name, s.E = q.Name, m.expr(q.Type, 3)
			return s
		}
	case api.Send:
		if c, ok := m.channel(false, 0); ok {
			s.Name, s.E = c.Name, m.expr(c.Type, 3)
			return s
		}
	case api.Take:
		q, ok := m.variable(0)
		if c, also := m.channel(true, q.Type); ok && also {
			s.Name, s.Of = q.Name, c.Name
			return s
		}
	case api.Do:
		s.E = m.call(&m.p.Procs[m.roll(len(m.p.Procs))], 2)
		return s
	case api.If, api.While:
		s.E, s.A = m.expr(api.Bool, 3), m.block(deep-1)
		if s.Kind == api.If {
			s.B = m.block(deep - 1)
		}
		return s
	}
	return m.let(s)
}

// let makes a variable that isn't there, or sets one.
func (m *maker) let(s api.Stmt) api.Stmt {
	free := slices.DeleteFunc([]string{"x", "y", "z", "q", "main", "i", "s", "t", "u"}, func(name string) bool {
		return slices.ContainsFunc(m.vars, func(q api.Param) bool { return q.Name == name })
	})
	if len(free) == 0 {
		q, _ := m.variable(0)
		s.Kind, s.Name, s.E = api.Set, q.Name, m.expr(q.Type, 3)
		return s
	}
	t := m.kind()
	s.Kind, s.Labelled = api.Let, m.roll(3) == 0
	if s.Labelled {
		s.L = m.label()
	}
	s.Name, s.E = m.one(free...), m.expr(t, 3)
	m.vars = append(m.vars, api.Param{Name: s.Name, Type: t})
	return s
}

// variable answers one of this type, 0: of any.
func (m *maker) variable(t int) (api.Param, bool) {
	l := slices.DeleteFunc(slices.Clone(m.vars), func(q api.Param) bool { return t != 0 && q.Type != t })
	if len(l) == 0 {
		return api.Param{}, false
	}
	return l[m.roll(len(l))], true
}

// channel answers one that comes in, or goes out, of this type, 0: of any.
func (m *maker) channel(in bool, t int) (api.Chan, bool) {
	l := slices.DeleteFunc(slices.Clone(m.p.Chans), func(c api.Chan) bool { return c.In != in || t != 0 && c.Type != t })
	if len(l) == 0 {
		return api.Chan{}, false
	}
	return l[m.roll(len(l))], true
}

func (m *maker) call(p *api.Proc, deep int) api.Expr {
	x := api.Expr{Kind: api.Call, At: m.here(), Name: p.Name}
	for _, q := range p.Params {
		x.A = append(x.A, m.expr(q.Type, deep-1))
	}
	return x
}

// expr makes an expression of the type t.
func (m *maker) expr(t, deep int) api.Expr {
	x := api.Expr{At: m.here()}
	kinds := 5
	if deep <= 0 {
		kinds = 3
	}
	switch m.roll(kinds) {
	case 1, 2:
		if q, ok := m.variable(t); ok {
			x.Kind, x.Name = api.Var, q.Name
			return x
		}
	case 3:
		return m.op(x, t, deep)
	case 4:
		if p := &m.p.Procs[m.roll(len(m.p.Procs))]; p.Result.Type == t {
			return m.call(p, deep)
		}
		x.Kind, x.L, x.A = api.Release, m.label(), []api.Expr{m.expr(t, deep-1)}
		return x
	}
	x.Kind, x.Type, x.N = api.Lit, t, m.roll(2)
	return x
}

// op makes x a sign with one or two.
func (m *maker) op(x api.Expr, t, deep int) api.Expr {
	takes := t
	signs := "- + - * / %"
	if t == api.Bool {
		signs = []string{"! && ||", "== !=", "< <= > >="}[m.roll(3)]
	}
	x.Kind, x.Name = api.Op, m.one(strings.Fields(signs)...)
	switch x.Name {
	case "==", "!=":
		takes = m.kind()
	case "<", "<=", ">", ">=":
		takes = api.Int
	}
	x.A = append(x.A, m.expr(takes, deep-1))
	if x.Name == "!" || x.Name == "-" && m.roll(2) == 0 {
		return x
	}
	x.A = append(x.A, m.expr(takes, deep-1))
	return x
}

// teller tells bounds by other means: it goes on where there are too many, and has in a sum all that goes into it, until it is told.
type teller struct {
	p    api.Program
	next int
	out  []api.Bound
}

// all is a sum: numbers, and policies one behind the other.
type all struct {
	from     map[int]int
	policies api.Label
}

// scene has of each variable its number, or -1 and its label.
type scene map[string]api.Bound

// bounds answers what Bounds should.
func bounds(p api.Program) (int, []int, []api.Bound, api.Fault) {
	if f := scope.Check(p); f.Code != api.OK {
		return 0, nil, nil, f
	}
	var places []int
	for _, q := range p.Procs {
		places = append(places, lets(q.Body)...)
	}
	w := &teller{p: p}
	for _, q := range p.Procs {
		s := scene{}
		for _, a := range q.Params {
			s[a.Name] = api.Bound{To: -1, Into: a.L}
		}
		w.stmts(q, s, q.Body, all{policies: q.Begin})
	}
	if len(w.out) > api.MaxBounds {
		return 0, nil, nil, api.Fault{Code: api.ErrMany, At: w.out[api.MaxBounds].At}
	}
	return len(places), places, w.out, api.Fault{}
}

// lets answers where the labels of l are looked for.
func lets(l []api.Stmt) []int {
	var out []int
	for _, s := range l {
		if s.Kind == api.Let && !s.Labelled {
			out = append(out, s.At)
		}
		out = append(append(out, lets(s.A)...), lets(s.B)...)
	}
	return out
}

func plus(l ...all) all {
	out := all{from: map[int]int{}}
	for _, a := range l {
		for n := range a.from {
			out.from[n]++
		}
		out.policies = slices.Concat(out.policies, a.policies)
	}
	return out
}

// goes tells that a goes to where b is.
func (w *teller) goes(a all, b api.Bound, at int, by []string) {
	b.At, b.For = at, by
	b.From = slices.Sorted(maps.Keys(a.from))
	// Too many policies can't be made normal at once.
	for piece := range slices.Chunk(a.policies, 7) {
		b.L, _ = label.Normal(w.p.Chiefs, w.p.Acts, slices.Concat(b.L, piece))
	}
	w.out = append(w.out, b)
}

func (w *teller) into(a all, l api.Label, at int) { w.goes(a, api.Bound{To: -1, Into: l}, at, nil) }

func (w *teller) stmts(q api.Proc, s scene, l []api.Stmt, pc all) {
	s = maps.Clone(s)
	for _, u := range l {
		e := w.says(q, s, u.E, pc)
		switch u.Kind {
		case api.Let:
			s[u.Name] = api.Bound{To: -1, Into: u.L}
			if !u.Labelled {
				s[u.Name] = api.Bound{To: w.next}
				w.next++
			}
			w.goes(plus(e, pc), s[u.Name], u.At, nil)
		case api.Set:
			w.goes(plus(e, pc), s[u.Name], u.At, nil)
		case api.Send:
			w.into(plus(e, pc), w.channel(u.Name), u.At)
		case api.Take:
			w.into(pc, w.channel(u.Of), u.At)
			w.goes(plus(all{policies: w.channel(u.Of)}, pc), s[u.Name], u.At, nil)
		case api.If, api.While:
			w.stmts(q, s, u.A, plus(pc, e))
			w.stmts(q, s, u.B, plus(pc, e))
		case api.Return:
			w.into(plus(e, pc), q.Result.L, u.At)
		}
	}
}

func (w *teller) says(q api.Proc, s scene, x api.Expr, pc all) all {
	switch x.Kind {
	case api.Var:
		if b := s[x.Name]; b.To >= 0 {
			return all{from: map[int]int{b.To: 1}}
		}
		return all{policies: s[x.Name].Into}
	case api.Op:
		var out all
		for _, a := range x.A {
			out = plus(out, w.says(q, s, a, pc))
		}
		return out
	case api.Call:
		p := w.proc(x.Name)
		for i, a := range x.A {
			w.into(plus(w.says(q, s, a, pc), pc), p.Params[i].L, a.At)
		}
		w.into(pc, p.Begin, x.At)
		return all{policies: p.Result.L}
	case api.Release:
		w.goes(w.says(q, s, x.A[0], pc), api.Bound{To: -1, Into: x.L}, x.At, q.For)
		w.into(pc, x.L, x.At)
		return all{policies: x.L}
	}
	return all{}
}

func (w *teller) channel(name string) api.Label {
	var l api.Label
	for _, c := range w.p.Chans {
		if c.Name == name {
			l = c.L
		}
	}
	return l
}

func (w *teller) proc(name string) api.Proc {
	var out api.Proc
	for _, p := range w.p.Procs {
		if p.Name == name {
			out = p
		}
	}
	return out
}
