package scope

import (
	"reflect"
	"slices"
	"strings"
	"testing"

	"cloister/api"
	"cloister/chief"
	"cloister/label"
	"cloister/parse"
	"cloister/tree"
)

// marked answers a text without its mark, and the byte where that stood: 0 if there is none.
func marked(s string) (string, int) {
	ahead, behind, ok := strings.Cut(s, "@")
	if !ok {
		return s, 0
	}
	return ahead + behind, len(ahead)
}

// read answers the program of a text.
func read(t *testing.T, s string) api.Program {
	t.Helper()
	p, f := parse.Program(s)
	if f.Code != api.OK {
		t.Fatalf("%q: %v", s, f)
	}
	return p
}

// readExpr answers the expression of a text.
func readExpr(t *testing.T, s string) api.Expr {
	t.Helper()
	x, f := parse.Expr(s)
	if f.Code != api.OK {
		t.Fatalf("%q: %v", s, f)
	}
	return x
}

// checked: Check answers so.
func checked(t *testing.T, what string, p api.Program, want api.Fault) {
	t.Helper()
	if got := Check(p); got != want {
		t.Errorf("%s: %v, want %v", what, got, want)
	}
}

// Expressions and statements.

func v(s string) api.Expr { return api.Expr{Kind: api.Var, Name: s} }

func num(n int) api.Expr { return api.Expr{Kind: api.Lit, Type: api.Int, N: n} }

func bit(n int) api.Expr { return api.Expr{Kind: api.Lit, Type: api.Bool, N: n} }

func op(s string, l ...api.Expr) api.Expr { return api.Expr{Kind: api.Op, Name: s, A: l} }

func let(s string, x api.Expr) api.Stmt { return api.Stmt{Kind: api.Let, Name: s, E: x} }

func set(s string, x api.Expr) api.Stmt { return api.Stmt{Kind: api.Set, Name: s, E: x} }

func when(l ...api.Stmt) api.Stmt { return api.Stmt{Kind: api.If, E: bit(1), A: l} }

// prog: a program of a main with these statements.
func prog(l ...api.Stmt) api.Program {
	return api.Program{Procs: []api.Proc{{Name: "main", Body: l}}}
}

// thrower answers numbers that look as if by chance, the same ones each time.
type thrower struct{ state uint64 }

func dice(seed int) *thrower { return &thrower{uint64(seed)*2654435761 + 1} }

func (d *thrower) roll(n int) int {
	d.state = d.state*6364136223846793005 + 1442695040888963407
	return int((d.state >> 33) % uint64(n))
}

func (d *thrower) one(of ...string) string { return of[d.roll(len(of))] }

func (d *thrower) kind() int { return api.Int + d.roll(2) }

// maker makes programs that are right, but for one slip in so many choices. Each thing has a byte of its own.
type maker struct {
	*thrower
	slips int
	at    int
	p     api.Program
	vars  []api.Param
	lists [][]api.Stmt // those that have been made, to be laid elsewhere, too
}

func (m *maker) slip() bool { return m.roll(m.slips) == 0 }

// here answers a byte; they neither rise nor begin at 0.
func (m *maker) here() int {
	m.at++
	return 5000 - 3*m.at
}

func (m *maker) program() api.Program {
	m.p.Chiefs = []string{"a", "b", "c"}[:1+m.roll(3)]
	if m.slip() {
		m.p.Chiefs = append(m.p.Chiefs[:1:1], m.one("a", "d"))
	}
	for range m.roll(3) {
		m.p.Acts = append(m.p.Acts, [2]string{m.who(), m.who()})
	}
	for _, name := range []string{"i", "j", "o", "p", "main"}[:m.roll(6)] {
		if m.slip() {
			name = m.one("i", "o")
		}
		in := name < "k" != m.slip()
		m.p.Chans = append(m.p.Chans, api.Chan{At: m.here(), Name: name, In: in, Type: m.kind(), L: m.label()})
	}
	for _, name := range []string{"f", "g", "main", "h", "i"}[:3+m.roll(3)] {
		if m.slip() {
			name = m.one("f", "g", "main", "o")
		}
		m.p.Procs = append(m.p.Procs, m.head(name))
	}
	for i := range m.p.Procs {
		m.body(&m.p.Procs[i])
	}
	if !m.slip() {
		m.p.Procs[0], m.p.Procs[2] = m.p.Procs[2], m.p.Procs[0]
	}
	return m.p
}

// who answers a chief.
func (m *maker) who() string {
	if m.slip() {
		return m.one("z", "A", "i", "main")
	}
	return m.p.Chiefs[m.roll(len(m.p.Chiefs))]
}

func (m *maker) label() api.Label {
	var l api.Label
	for range m.roll(3) {
		p := api.Policy{Owner: m.who()}
		for range m.roll(3) {
			p.Readers = append(p.Readers, m.who())
		}
		l = append(l, p)
	}
	return l
}

func (m *maker) head(name string) api.Proc {
	p := api.Proc{At: m.here(), Name: name, Begin: m.label()}
	if name != "main" || m.slip() {
		for _, s := range []string{"x", "q", "y", "i"}[:m.roll(5)] {
			if m.slip() {
				s = m.one("x", "q")
			}
			p.Params = append(p.Params, api.Param{Name: s, Type: m.kind(), L: m.label()})
		}
		p.Result.Type = m.roll(3)
	}
	if p.Result.Type != api.None {
		p.Result.L = m.label()
	}
	for range m.roll(3) {
		p.For = append(p.For, m.who())
	}
	return p
}

func (m *maker) body(p *api.Proc) {
	m.vars = slices.Clone(p.Params)
	p.Body = m.stmts(3)
	m.lists = append(m.lists, p.Body)
	if (p.Result.Type == api.None) == m.slip() {
		p.Body = append(p.Body, api.Stmt{Kind: api.Return, At: m.here(), E: m.expr(max(p.Result.Type, api.Int), 2)})
	}
	if m.slip() {
		p.Body = append(p.Body, m.stmt(1))
	}
}

// block makes statements, or takes those that lie elsewhere.
func (m *maker) block(deep int) []api.Stmt {
	if len(m.lists) > 0 && m.roll(3) == 0 {
		l := m.lists[m.roll(len(m.lists))]
		from := 0
		if len(l) > 0 {
			from = m.roll(2)
		}
		return l[from:]
	}
	n := len(m.vars)
	l := m.stmts(deep)
	m.vars = m.vars[:n]
	m.lists = append(m.lists, l)
	return l
}

func (m *maker) stmts(deep int) []api.Stmt {
	var l []api.Stmt
	for range m.roll(5) {
		l = append(l, m.stmt(deep))
	}
	return l
}

func (m *maker) stmt(deep int) api.Stmt {
	s := api.Stmt{Kind: []int{api.Let, api.Let, api.Set, api.Send, api.Take, api.Do, api.If, api.If, api.While}[m.roll(9)], At: m.here()}
	if deep == 0 && (s.Kind == api.If || s.Kind == api.While) {
		s.Kind = api.Let
	}
	if m.slip() && m.slip() {
		return api.Stmt{Kind: api.Return, At: s.At, E: m.expr(m.kind(), 2)}
	}
	switch s.Kind {
	case api.Set:
		if q, ok := m.variable(0); ok {
			s.Name, s.E = q.Name, m.expr(q.Type, 3)
			return s
		}
	case api.Send:
		if c, ok := m.channel(false, 0); ok {
			s.Name, s.E = c.Name, m.expr(c.Type, 3)
			return s
		}
	case api.Take:
		return m.take(s)
	case api.Do:
		s.E = m.call(&m.p.Procs[m.roll(len(m.p.Procs))], 2)
		return s
	case api.If, api.While:
		s.E, s.A = m.expr(api.Bool, 3), m.block(deep-1)
		if s.Kind == api.If {
			s.B = m.block(deep - 1)
		}
		return s
	}
	return m.let(s)
}

func (m *maker) take(s api.Stmt) api.Stmt {
	q, ok := m.variable(0)
	c, also := m.channel(true, q.Type)
	if !ok || !also {
		return m.let(s)
	}
	s.Name, s.Of = q.Name, c.Name
	return s
}

// let makes a variable that isn't there.
func (m *maker) let(s api.Stmt) api.Stmt {
	t := m.kind()
	s.Kind, s.Labelled = api.Let, m.roll(2) == 0
	if s.Labelled {
		s.L = m.label()
	}
	s.E = m.expr(t, 3)
	free := slices.DeleteFunc([]string{"x", "y", "z", "q", "main", "i", "s", "t", "u"}, func(name string) bool {
		return slices.ContainsFunc(m.vars, func(q api.Param) bool { return q.Name == name })
	})
	if len(free) == 0 || m.slip() {
		free = []string{"x", "y", "z", "q"}
	}
	s.Name = m.one(free...)
	m.vars = append(m.vars, api.Param{Name: s.Name, Type: t})
	return s
}

// variable answers one of this type, 0: of any.
func (m *maker) variable(t int) (api.Param, bool) {
	if m.slip() {
		return api.Param{Name: m.one("x", "y", "z", "o"), Type: m.kind()}, true
	}
	l := slices.DeleteFunc(slices.Clone(m.vars), func(q api.Param) bool { return t != 0 && q.Type != t })
	if len(l) == 0 {
		return api.Param{}, false
	}
	return l[m.roll(len(l))], true
}

// channel answers one that comes in, or goes out, of this type, 0: of any.
func (m *maker) channel(in bool, t int) (api.Chan, bool) {
	if m.slip() {
		return api.Chan{Name: m.one("i", "o", "x"), Type: m.kind()}, true
	}
	l := slices.DeleteFunc(slices.Clone(m.p.Chans), func(c api.Chan) bool { return c.In != in || t != 0 && c.Type != t })
	if len(l) == 0 {
		return api.Chan{}, false
	}
	return l[m.roll(len(l))], true
}

func (m *maker) call(p *api.Proc, deep int) api.Expr {
	x := api.Expr{Kind: api.Call, At: m.here(), Name: p.Name}
	if m.slip() {
		x.Name = m.one("nobody", "x", "o", "f")
	}
	for _, q := range p.Params {
		x.A = append(x.A, m.expr(q.Type, deep-1))
	}
	if n := len(x.A); m.slip() && n > 0 {
		x.A = x.A[:n-1]
	} else if m.slip() && n < api.MaxParams {
		x.A = append(x.A, m.expr(m.kind(), deep-1))
	}
	return x
}

// expr makes an expression of the type t.
func (m *maker) expr(t, deep int) api.Expr {
	if m.slip() {
		t = api.Int + api.Bool - t
	}
	x := api.Expr{At: m.here()}
	kinds := 4
	if deep <= 0 {
		kinds = 2
	}
	switch m.roll(kinds) {
	case 1:
		if q, ok := m.variable(t); ok {
			x.Kind, x.Name = api.Var, q.Name
			return x
		}
	case 2:
		return m.op(x, t, deep)
	case 3:
		if p := &m.p.Procs[m.roll(len(m.p.Procs))]; p.Result.Type == t || m.slip() {
			return m.call(p, deep)
		}
		x.Kind, x.L, x.A = api.Release, m.label(), []api.Expr{m.expr(t, deep-1)}
		return x
	}
	x.Kind, x.Type, x.N = api.Lit, t, m.roll(2)
	return x
}

// op makes x a sign with one or two.
func (m *maker) op(x api.Expr, t, deep int) api.Expr {
	takes := t
	signs := "- + - * / %"
	if t == api.Bool {
		signs = []string{"! && ||", "== !=", "< <= > >="}[m.roll(3)]
	}
	x.Kind, x.Name = api.Op, m.one(strings.Fields(signs)...)
	switch x.Name {
	case "==", "!=":
		takes = m.kind()
	case "<", "<=", ">", ">=":
		takes = api.Int
	}
	x.A = append(x.A, m.expr(takes, deep-1))
	if x.Name == "!" || x.Name == "-" && m.roll(2) == 0 {
		return x
	}
	x.A = append(x.A, m.expr(takes, deep-1))
	return x
}

// teller tells all that is wrong, in order, and never stops: so of what it tells only the first is sure.
type teller struct {
	p   api.Program
	out []api.Fault
}

// scene has the types of variables.
type scene map[string]int

func (s scene) copied() scene {
	c := scene{}
	for name, t := range s {
		c[name] = t
	}
	return c
}

// first answers the first of what a teller tells of p.
func first(p api.Program) api.Fault {
	w := &teller{p: p}
	w.say(tree.Check(p), 0)
	if len(w.out) > 0 {
		return w.out[0]
	}
	w.program()
	return append(w.out, api.Fault{})[0]
}

func (w *teller) say(code api.Errno, at int) {
	if code != api.OK {
		w.out = append(w.out, api.Fault{Code: code, At: at})
	}
}

func (w *teller) sayIf(wrong bool, code api.Errno, at int) {
	if wrong {
		w.say(code, at)
	}
}

func (w *teller) label(l api.Label, at int) { w.say(label.Check(w.p.Chiefs, w.p.Acts, l), at) }

func (w *teller) program() {
	p := w.p
	w.say(chief.Check(p.Chiefs, p.Acts), 0)
	for i, c := range p.Chans {
		for _, d := range p.Chans[:i] {
			w.sayIf(c.Name == d.Name, api.ErrTwice, c.At)
		}
		w.label(c.L, c.At)
	}
	for i, q := range p.Procs {
		for _, r := range p.Procs[:i] {
			w.sayIf(q.Name == r.Name, api.ErrTwice, q.At)
		}
		names := ""
		for _, a := range q.Params {
			w.sayIf(strings.Contains(names, " "+a.Name+" "), api.ErrTwice, q.At)
			names += " " + a.Name + " "
			w.label(a.L, q.At)
		}
		w.label(q.Result.L, q.At)
		w.label(q.Begin, q.At)
		for _, who := range q.For {
			w.sayIf(!strings.Contains(","+strings.Join(p.Chiefs, ",")+",", ","+who+","), api.ErrWho, q.At)
		}
	}
	count := 0
	for _, q := range p.Procs {
		w.body(q)
		if q.Name == "main" {
			count++
		}
	}
	w.sayIf(count == 0, api.ErrWho, 0)
	for _, q := range p.Procs {
		w.sayIf(q.Name == "main" && (len(q.Params) > 0 || q.Result.Type != api.None), api.ErrForm, q.At)
	}
}

func (w *teller) body(q api.Proc) {
	s := scene{}
	for _, a := range q.Params {
		s[a.Name] = a.Type
	}
	for i, u := range q.Body {
		if u.Kind == api.Return {
			w.sayIf(q.Result.Type == api.None, api.ErrForm, u.At)
			w.sayIf(i != len(q.Body)-1, api.ErrForm, u.At)
			w.must(s, u.E, q.Result.Type)
			continue
		}
		w.stmt(s, u)
	}
	n := len(q.Body)
	w.sayIf(q.Result.Type != api.None && (n == 0 || q.Body[n-1].Kind != api.Return), api.ErrForm, q.At)
}

// stmt tells what is wrong with u, which adds to s what it makes.
func (w *teller) stmt(s scene, u api.Stmt) {
	t, there := s[u.Name]
	switch u.Kind {
	case api.Let:
		if u.Labelled {
			w.label(u.L, u.At)
		}
		made := w.typeOf(s, u.E)
		w.sayIf(there, api.ErrTwice, u.At)
		s[u.Name] = made
	case api.Set:
		w.sayIf(!there, api.ErrWho, u.At)
		w.must(s, u.E, t)
	case api.Send:
		w.must(s, u.E, w.channel(u.Name, false, u.At))
	case api.Take:
		w.sayIf(!there, api.ErrWho, u.At)
		w.sayIf(w.channel(u.Of, true, u.At) != t, api.ErrType, u.At)
	case api.If, api.While:
		w.must(s, u.E, api.Bool)
		for _, l := range [][]api.Stmt{u.A, u.B} {
			inner := s.copied()
			for _, below := range l {
				w.stmt(inner, below)
			}
		}
	case api.Do:
		w.args(s, u.E)
	case api.Return:
		w.say(api.ErrForm, u.At)
	}
}

func (w *teller) channel(name string, in bool, at int) int {
	for _, c := range w.p.Chans {
		if c.Name == name && c.In == in {
			return c.Type
		}
	}
	w.say(api.ErrWho, at)
	return api.None
}

func (w *teller) must(s scene, x api.Expr, t int) {
	w.sayIf(w.typeOf(s, x) != t, api.ErrType, x.At)
}

// args tells what is wrong with a call, and answers what it gives back.
func (w *teller) args(s scene, x api.Expr) int {
	for _, q := range w.p.Procs {
		if q.Name != x.Name {
			continue
		}
		if len(q.Params) != len(x.A) {
			w.say(api.ErrForm, x.At)
			return q.Result.Type
		}
		for i, a := range x.A {
			w.must(s, a, q.Params[i].Type)
		}
		return q.Result.Type
	}
	w.say(api.ErrWho, x.At)
	return api.None
}

// signs has what is taken and given: i, b, or = for the first one's.
const signs = " 1-:ii 1!:bb 2&&:bb 2||:bb 2<:ib 2<=:ib 2>:ib 2>=:ib 2==:=b 2!=:=b 2+:ii 2-:ii 2*:ii 2/:ii 2%:ii "

func (w *teller) typeOf(s scene, x api.Expr) int {
	switch x.Kind {
	case api.Var:
		t, there := s[x.Name]
		w.sayIf(!there, api.ErrWho, x.At)
		return t
	case api.Call:
		t := w.args(s, x)
		w.sayIf(t == api.None, api.ErrType, x.At)
		return t
	case api.Release:
		w.label(x.L, x.At)
		return w.typeOf(s, x.A[0])
	case api.Op:
		key := " " + string(rune('0'+len(x.A))) + x.Name + ":"
		row := signs[strings.Index(signs, key)+len(key):]
		takes := strings.Index(" ib", row[:1])
		for i, a := range x.A {
			if row[0] == '=' && i == 0 {
				takes = w.typeOf(s, a)
			} else {
				w.must(s, a, takes)
			}
		}
		return strings.Index(" ib", row[1:2])
	}
	return x.Type
}

// bytesOf answers the bytes of all that has one, in the order of the program.
func bytesOf(p api.Program) []int {
	var l []int
	var expr func(x api.Expr)
	expr = func(x api.Expr) {
		l = append(l, x.At)
		for _, a := range x.A {
			expr(a)
		}
	}
	var stmts func(of []api.Stmt)
	stmts = func(of []api.Stmt) {
		for _, s := range of {
			l = append(l, s.At)
			expr(s.E)
			stmts(s.A)
			stmts(s.B)
		}
	}
	for _, c := range p.Chans {
		l = append(l, c.At)
	}
	for _, q := range p.Procs {
		l = append(l, q.At)
		stmts(q.Body)
	}
	return l
}

// eachChange changes x in each way, one after the other: each number, text, bool of it; each list by one less and one more. It is changed back each time.
func eachChange(x reflect.Value, see func()) {
	was := reflect.New(x.Type()).Elem()
	was.Set(x)
	change := func(to reflect.Value) {
		x.Set(to)
		see()
		x.Set(was)
	}
	switch x.Kind() {
	case reflect.Int:
		for _, by := range []int{-1, 1, 2} {
			change(reflect.ValueOf(int(x.Int()) + by))
		}
	case reflect.String:
		for _, s := range []string{"", "a", "x", "y", "i", "o", "f", "main", "-", "!", "==", "+", "if"} {
			change(reflect.ValueOf(s))
		}
	case reflect.Bool:
		change(reflect.ValueOf(!x.Bool()))
	case reflect.Struct:
		for i := range x.NumField() {
			eachChange(x.Field(i), see)
		}
	case reflect.Array, reflect.Slice:
		for i := range x.Len() {
			eachChange(x.Index(i), see)
		}
		if x.Kind() == reflect.Slice {
			more := reflect.MakeSlice(x.Type(), x.Len()+1, x.Len()+1)
			reflect.Copy(more, x)
			change(more)
			if x.Len() > 0 {
				more.Index(x.Len()).Set(x.Index(0))
				change(more)
				change(more.Slice(0, x.Len()-1))
				change(more.Slice(1, x.Len()))
			}
		}
	}
}
