package twin

import (
	"fmt"
	"math"
	"reflect"
	"slices"
	"strconv"
	"strings"
	"testing"

	"cloister/api"
	"cloister/check"
	"cloister/label"
	"cloister/parse"
	"cloister/run"
	"cloister/tree"
)

// read answers the program of a text.
func read(t *testing.T, s string) api.Program {
	t.Helper()
	p, f := parse.Program(s)
	if f.Code != api.OK {
		t.Fatalf("%q: %v", s, f)
	}
	return p
}

// lists: those of `i=1,2 j=3`, channel by channel of p.
func lists(t *testing.T, p api.Program, s string) [][]int {
	t.Helper()
	in := make([][]int, len(p.Chans))
	for _, one := range strings.Fields(s) {
		name, l, _ := strings.Cut(one, "=")
		i := slices.IndexFunc(p.Chans, func(c api.Chan) bool { return c.Name == name })
		for _, n := range strings.Split(l, ",") {
			k, err := strconv.Atoi(n)
			if err != nil || i < 0 {
				t.Fatalf("%q: %v", s, err)
			}
			in[i] = append(in[i], k)
		}
	}
	return in
}

// many: the lists of each of `s=1 | s=2 u=3`.
func many(t *testing.T, p api.Program, s string) [][][]int {
	t.Helper()
	var out [][][]int
	for _, one := range strings.Split(s, "|") {
		out = append(out, lists(t, p, one))
	}
	return out
}

// whole tells all of x, in which lists of nothing are alike.
func whole(x any) string { return fmt.Sprintf("%+v", x) }

// printed tells p as it is printed.
func printed(p api.Program) string {
	s, code := tree.Print(p)
	if code != api.OK {
		return fmt.Sprint("error ", code)
	}
	return s
}

// one answers 1 if it is so, else 0.
func one(is bool) int { return map[bool]int{true: 1}[is] }

// Expressions and statements.

func v(s string) api.Expr { return api.Expr{Kind: api.Var, Name: s} }

func num(n int) api.Expr { return api.Expr{Kind: api.Lit, Type: api.Int, N: n} }

func flag(n int) api.Expr { return api.Expr{Kind: api.Lit, Type: api.Bool, N: n} }

func op(s string, l ...api.Expr) api.Expr { return api.Expr{Kind: api.Op, Name: s, A: l} }

func call(s string, l ...api.Expr) api.Expr { return api.Expr{Kind: api.Call, Name: s, A: l} }

func release(l api.Label, x api.Expr) api.Expr {
	return api.Expr{Kind: api.Release, L: l, A: []api.Expr{x}}
}

func send(s string, x api.Expr) api.Stmt { return api.Stmt{Kind: api.Send, Name: s, E: x} }

// What the chapter says, by other means: by texts, and by chapter 3's Reads.

// reads: may who read what has l?
func reads(p api.Program, who string, l api.Label) bool {
	all, code := label.Reads(p.Chiefs, p.Acts, l)
	if code != api.OK {
		panic(fmt.Sprint("chapter 3 tells ", code))
	}
	return slices.Contains(all, who)
}

// story is a run as who may read it.
type story struct {
	all, released string
	done          bool
}

// tell answers the story of a run that has no fault.
func tell(p api.Program, who string, in [][]int, fuel int) story {
	tr, f := run.Program(p, in, fuel)
	if f.Code != api.OK {
		panic(fmt.Sprint("chapter 10 tells ", f))
	}
	s := story{done: tr.Done}
	for _, e := range tr.Events {
		text := e.Chan + " " + strconv.Itoa(e.N) + ";"
		if !reads(p, who, e.L) {
			continue
		}
		s.all += text
		if e.Chan == "" {
			s.released += text
		}
	}
	return s
}

// onward: is one of the texts the other one, as far as it goes?
func onward(a, b string) bool {
	n := min(len(a), len(b))
	return a[:n] == b[:n]
}

// differ answers what Apart should of runs without a fault. (Of two texts of which one is the other one as far as it goes, those of as many events are the same.)
func differ(p api.Program, who string, a, b [][]int, fuel int) (apart, kept bool) {
	x, y := tell(p, who, a, fuel), tell(p, who, b, fuel)
	ended := x.done && y.done && x.all != y.all
	return ended || !onward(x.all, y.all), onward(x.released, y.released)
}

// matching: does the same come in wherever who may read?
func matching(p api.Program, who string, a, b [][]int) bool {
	for i, c := range p.Chans {
		if whole(a[i]) != whole(b[i]) && reads(p, who, c.L) {
			return false
		}
	}
	return true
}

// thrower answers numbers that look as if by chance, the same ones each time.
type thrower struct{ state uint64 }

func dice(seed int) *thrower { return &thrower{uint64(seed)*2654435761 + 1} }

func (d *thrower) roll(n int) int {
	d.state = d.state*6364136223846793005 + 1442695040888963407
	return int((d.state >> 33) % uint64(n))
}

func (d *thrower) one(of ...string) string { return of[d.roll(len(of))] }

func (d *thrower) kind() int { return api.Int + d.roll(2) }

// mostly answers Int, or sometimes Bool.
func (d *thrower) mostly() int { return api.Int + d.roll(4)/3 }

// lit makes one of this type.
func (d *thrower) lit(t int) api.Expr {
	if t == api.Bool {
		return flag(d.roll(2))
	}
	return num([]int{0, 1, 2, 3, 10, 999999999}[d.roll(6)])
}

// maker makes programs in which names and types are right, and most things go where they may. Each statement and each expression has a byte of its own.
type maker struct {
	*thrower
	loose int  // of how many things one goes anywhere
	quiet bool // nothing is released
	long  int  // how many statements a list has about
	at    int
	made  int         // how many procedures have been begun
	pool  []api.Label // those that are there: some of them may go to others
	p     api.Program
	pc    api.Label
	by    []string // For of the procedure that is made
	vars  []api.Param
	types map[int]int // of the E of Lets and Returns, by the byte of these
}

func newMaker(seed, loose, long int) *maker {
	return &maker{thrower: dice(seed), loose: loose, long: long, types: map[int]int{}}
}

func (m *maker) here() int {
	m.at++
	return m.at
}

// set answers x at a byte of its own.
func (m *maker) set(x api.Expr) api.Expr {
	x.At = m.here()
	return x
}

func (m *maker) program() api.Program {
	m.p.Chiefs = []string{"c", "a", "b", "d"}[:2+m.roll(3)]
	m.p.Acts = m.pairs(3)
	m.fill()
	for _, name := range []string{"i", "o", "j", "p", "k", "q"} {
		m.p.Chans = append(m.p.Chans, api.Chan{At: m.here(), Name: name, In: name < "l", Type: m.mostly(), L: m.label()})
	}
	// Something comes in that not all may read, and can go out, too.
	m.p.Chans[4].L = m.pool[3+m.roll(len(m.pool)-3)]
	m.p.Chans[5].L = m.pool[len(m.pool)-1]
	for _, name := range []string{"main", "f", "g"} {
		m.p.Procs = append(m.p.Procs, m.head(name))
	}
	for i := range m.p.Procs {
		m.made = i + 1
		m.body(&m.p.Procs[i])
	}
	return m.p
}

// pairs makes fewer than n of chiefs of the program.
func (m *maker) pairs(n int) [][2]string {
	var l [][2]string
	for range m.roll(n) {
		l = append(l, [2]string{m.who(), m.who()})
	}
	return l
}

// fill makes the labels of the program.
func (m *maker) fill() {
	m.pool = []api.Label{nil, nil, nil}
	for range 2 + m.roll(2) {
		p := api.Policy{Owner: m.who()}
		for range m.roll(3) {
			p.Readers = append(p.Readers, m.who())
		}
		for _, l := range m.pool[2:] {
			m.pool = append(m.pool, append(slices.Clone(l), p))
		}
	}
}

func (m *maker) who() string { return m.p.Chiefs[m.roll(len(m.p.Chiefs))] }

func (m *maker) label() api.Label { return m.pool[m.roll(len(m.pool))] }

// may: may what has a go to b? Sometimes that isn't asked.
func (m *maker) may(a, b api.Label) bool {
	ok, _ := label.Flows(m.p.Chiefs, m.p.Acts, a, b)
	return ok || m.roll(m.loose) == 0
}

// upward makes a label to which what has l may go.
func (m *maker) upward(l api.Label) api.Label {
	for range 20 {
		if up := m.label(); m.may(l, up) {
			return up
		}
	}
	return l
}

// inputs makes lists for the channels of the program.
func (m *maker) inputs() [][]int {
	in := make([][]int, len(m.p.Chans))
	for i, c := range m.p.Chans {
		if c.In {
			in[i] = m.numbers()
		}
	}
	return in
}

func (m *maker) numbers() []int {
	var l []int
	for range m.roll(6) {
		l = append(l, []int{0, 0, 1, 1, 1, 2, 2, 3, 5, -1, math.MaxInt, math.MinInt}[m.roll(12)])
	}
	return l
}

// other makes lists that are those of in wherever who may read in p.
func (m *maker) other(p api.Program, who string, in [][]int) [][]int {
	out := slices.Clone(in)
	for i, c := range p.Chans {
		if c.In && !reads(p, who, c.L) {
			out[i] = m.numbers()
		}
	}
	return out
}

func (m *maker) head(name string) api.Proc {
	p := api.Proc{At: m.here(), Name: name}
	if name != "main" || m.roll(8) == 0 {
		p.Begin = m.label()
	}
	if name != "main" {
		for _, s := range []string{"x", "q", "y", "i"}[:m.roll(4)] {
			p.Params = append(p.Params, api.Param{Name: s, Type: m.mostly(), L: m.upward(p.Begin)})
		}
		p.Result.Type = m.roll(3)
	}
	if p.Result.Type != api.None {
		// What is begun there can always be given back.
		p.Result.L = slices.Concat(m.label(), p.Begin)
	}
	for range m.roll(4) {
		p.For = append(p.For, m.who())
	}
	return p
}

func (m *maker) body(p *api.Proc) {
	m.vars, m.pc, m.by = slices.Clone(p.Params), p.Begin, p.For
	if p.Name == "main" {
		p.Body = append(m.takes(), m.stmts(2)...)
	}
	p.Body = append(p.Body, m.stmts(2)...)
	if t := p.Result.Type; t != api.None {
		at := m.here()
		m.types[at] = t
		p.Body = append(p.Body, api.Stmt{Kind: api.Return, At: at, E: m.expr(t, 2, p.Result.L)})
	}
}

// takes makes a variable of what comes in at each channel, so that what is done hangs on it.
func (m *maker) takes() []api.Stmt {
	var l []api.Stmt
	for i, c := range m.p.Chans {
		if !c.In {
			continue
		}
		name := "xyzstu"[i : i+1]
		at := m.here()
		m.types[at] = c.Type
		l = append(l, api.Stmt{Kind: api.Let, At: at, Name: name, E: m.set(m.lit(c.Type))})
		l = append(l, api.Stmt{Kind: api.Take, At: m.here(), Name: name, Of: c.Name})
		m.vars = append(m.vars, api.Param{Name: name, Type: c.Type, L: slices.Concat(c.L, m.pc)})
	}
	return l
}

// block makes statements within what says l.
func (m *maker) block(deep int, l api.Label) []api.Stmt {
	n, pc := len(m.vars), m.pc
	m.pc = slices.Concat(pc, l)
	out := m.stmts(deep)
	m.vars, m.pc = m.vars[:n], pc
	return out
}

func (m *maker) stmts(deep int) []api.Stmt {
	var l []api.Stmt
	for range m.long/2 + m.roll(m.long) {
		l = append(l, m.stmt(deep))
	}
	return l
}

func (m *maker) stmt(deep int) api.Stmt {
	kinds := []int{api.Let, api.Set, api.Set, api.Send, api.Send, api.Send, api.Take, api.Do, api.If, api.If, api.If, api.While}
	if deep == 0 {
		kinds = kinds[:8]
	}
	s := api.Stmt{Kind: kinds[m.roll(len(kinds))], At: m.here()}
	switch s.Kind {
	case api.Set:
		if q, ok := m.goal(0, m.pc); ok {
			s.Name, s.E = q.Name, m.expr(q.Type, 2, q.L)
			return s
		}
	case api.Send:
		if c, ok := m.channel(func(c api.Chan) bool { return !c.In && m.may(m.pc, c.L) }); ok {
			s.Name, s.E = c.Name, m.expr(c.Type, 2, c.L)
			return s
		}
	case api.Take:
		c, _ := m.channel(func(c api.Chan) bool { return c.In && m.may(m.pc, c.L) })
		if q, ok := m.goal(c.Type, c.L); ok && c.Name != "" {
			s.Name, s.Of = q.Name, c.Name
			return s
		}
	case api.Do:
		if p := m.callee(); m.callable(p) {
			s.E = m.call(p, 2)
			return s
		}
	case api.If:
		l := m.label()
		s.E, s.A, s.B = m.expr(api.Bool, 2, l), m.block(deep-1, l), m.block(deep-1, l)
		return s
	case api.While:
		return m.loop(s, deep)
	}
	return m.let(s)
}

// loop makes a While that mostly ends.
func (m *maker) loop(s api.Stmt, deep int) api.Stmt {
	q, ok := m.goal(api.Int, m.pc)
	if !ok || m.roll(10) == 0 {
		l := m.label()
		s.E, s.A = m.expr(api.Bool, 2, l), m.block(deep-1, l)
		return s
	}
	s.E = m.set(op(">", m.set(v(q.Name)), m.set(num(0))))
	down := api.Stmt{Kind: api.Set, At: m.here(), Name: q.Name, E: m.set(op("-", m.set(v(q.Name)), m.set(num(1))))}
	s.A = append(m.block(deep-1, q.L), down)
	return s
}

// let makes a variable that isn't there, or sets one.
func (m *maker) let(s api.Stmt) api.Stmt {
	free := slices.DeleteFunc([]string{"x", "y", "z", "q", "main", "i", "s", "t", "u", "f", "o", "p", "n"}, func(name string) bool {
		return slices.ContainsFunc(m.vars, func(q api.Param) bool { return q.Name == name })
	})
	if len(free) == 0 {
		q := m.vars[m.roll(len(m.vars))]
		s.Kind, s.Name, s.E = api.Set, q.Name, m.expr(q.Type, 2, q.L)
		return s
	}
	t, l := m.mostly(), m.upward(m.pc)
	s.Kind, s.Labelled = api.Let, m.roll(4) == 0
	if s.Labelled {
		s.L = l
	}
	s.Name, s.E = m.one(free...), m.expr(t, 2, l)
	m.types[s.At] = t
	m.vars = append(m.vars, api.Param{Name: s.Name, Type: t, L: l})
	return s
}

// variable answers one of this type, 0: of any, for which fits holds.
func (m *maker) variable(t int, fits func(q api.Param) bool) (api.Param, bool) {
	l := slices.DeleteFunc(slices.Clone(m.vars), func(q api.Param) bool { return t != 0 && q.Type != t || !fits(q) })
	if len(l) == 0 {
		return api.Param{}, false
	}
	return l[m.roll(len(l))], true
}

// goal answers a variable of this type to which what has l may go.
func (m *maker) goal(t int, l api.Label) (api.Param, bool) {
	return m.variable(t, func(q api.Param) bool { return m.may(l, q.L) && m.may(m.pc, q.L) })
}

// source answers a variable of this type that may go to what has l.
func (m *maker) source(t int, l api.Label) (api.Param, bool) {
	return m.variable(t, func(q api.Param) bool { return m.may(q.L, l) })
}

// channel answers one for which fits holds.
func (m *maker) channel(fits func(c api.Chan) bool) (api.Chan, bool) {
	l := slices.DeleteFunc(slices.Clone(m.p.Chans), func(c api.Chan) bool { return !fits(c) })
	if len(l) == 0 {
		return api.Chan{}, false
	}
	return l[m.roll(len(l))], true
}

// callee answers a procedure that stands behind the one that is made, or sometimes any one: so that not all calls lie within too many others.
func (m *maker) callee() *api.Proc {
	if n := len(m.p.Procs) - m.made; n > 0 && m.roll(8) > 0 {
		return &m.p.Procs[m.made+m.roll(n)]
	}
	return &m.p.Procs[m.roll(len(m.p.Procs))]
}

// callable: may p be called here?
func (m *maker) callable(p *api.Proc) bool {
	return m.may(m.pc, p.Begin) && !slices.ContainsFunc(p.Params, func(q api.Param) bool { return !m.may(m.pc, q.L) })
}

func (m *maker) call(p *api.Proc, deep int) api.Expr {
	var l []api.Expr
	for _, q := range p.Params {
		l = append(l, m.expr(q.Type, deep-1, q.L))
	}
	return m.set(call(p.Name, l...))
}

// expr makes an expression of the type t that may go to what has l.
func (m *maker) expr(t, deep int, l api.Label) api.Expr {
	kinds := 10
	if deep <= 0 {
		kinds = 6
	}
	switch m.roll(kinds) {
	case 1, 2, 3, 4, 5:
		if q, ok := m.source(t, l); ok {
			return m.set(v(q.Name))
		}
	case 6, 7:
		return m.op(t, deep-1, l)
	case 8:
		if to := m.label(); !m.quiet && m.may(to, l) && m.may(m.pc, to) {
			return m.set(release(to, m.expr(t, deep-1, m.freed(to))))
		}
	case 9:
		if p := m.callee(); p.Result.Type == t && m.may(p.Result.L, l) && m.callable(p) {
			return m.call(p, deep)
		}
	}
	if q, ok := m.source(api.Int, l); ok && t == api.Bool && deep > 0 {
		return m.set(op(m.one("==", "<", ">"), m.set(v(q.Name)), m.set(num(m.roll(3)))))
	}
	return m.set(m.lit(t))
}

// freed makes a label of what may be released to l here.
func (m *maker) freed(l api.Label) api.Label {
	for range 20 {
		from := m.label()
		if rest, _ := label.Less(m.p.Chiefs, m.p.Acts, from, m.by); m.may(rest, l) {
			return from
		}
	}
	return l
}

// op makes a sign, with what it asks for.
func (m *maker) op(t, deep int, l api.Label) api.Expr {
	part := func(t int) api.Expr { return m.expr(t, deep, l) }
	if t == api.Int {
		if m.roll(6) == 0 {
			return m.set(op("-", part(t)))
		}
		return m.set(op(m.one("+", "-", "*", "/", "%"), part(t), part(t)))
	}
	switch s := m.one("!", "&&", "||", "==", "!=", "<", "<=", ">", ">="); s {
	case "!":
		return m.set(op(s, part(t)))
	case "&&", "||":
		return m.set(op(s, part(t), part(t)))
	case "==", "!=":
		k := m.kind()
		return m.set(op(s, part(k), part(k)))
	default:
		return m.set(op(s, part(api.Int), part(api.Int)))
	}
}

// mended takes out of the program, place by place, what chapter 9 doesn't take; false: that isn't all that is wrong.
func (m *maker) mended() (api.Program, bool) {
	for {
		_, f := check.Program(m.p)
		if f.Code != api.ErrFlow && f.Code != api.ErrMay {
			return m.p, f.Code == api.OK
		}
		for i := range m.p.Procs {
			m.p.Procs[i].Body = m.mend(m.p.Procs[i].Body, f.At)
		}
	}
}

// mend answers l without what is at that byte: what must stay says less.
func (m *maker) mend(l []api.Stmt, at int) []api.Stmt {
	var out []api.Stmt
	for _, s := range l {
		s.A, s.B = m.mend(s.A, at), m.mend(s.B, at)
		bad := s.At == at || within(s.E, at)
		switch {
		case bad && s.Kind == api.Let && s.E.Kind == api.Lit:
			s.Labelled, s.L = false, nil
		case bad && (s.Kind == api.Let || s.Kind == api.Return):
			s.E = m.set(m.lit(m.types[s.At]))
		case bad && s.Kind == api.If:
			s.E = m.set(m.lit(api.Bool))
		case bad:
			continue
		}
		out = append(out, s)
	}
	return out
}

// within: is something of x at that byte?
func within(x api.Expr, at int) bool {
	return x.At == at || slices.ContainsFunc(x.A, func(y api.Expr) bool { return within(y, at) })
}

// Programs of no form.

func (d *thrower) anyName() string { return d.one("", "x", "main", "if", "\xff", "a b") }

func (d *thrower) anyLabel() api.Label {
	var l api.Label
	for range d.roll(6) - 3 {
		l = append(l, api.Policy{Owner: d.anyName(), Readers: []string{d.anyName()}})
	}
	return l
}

func (d *thrower) anyExprs(deep int) []api.Expr {
	var l []api.Expr
	for range d.roll(3) {
		x := api.Expr{Kind: d.roll(8) - 1, N: d.roll(9) - 4, Type: d.roll(4), Name: d.anyName(), L: d.anyLabel()}
		if deep > 0 {
			x.A = d.anyExprs(deep - 1)
		}
		l = append(l, x)
	}
	return l
}

func (d *thrower) anyStmts(deep int) []api.Stmt {
	var l []api.Stmt
	for range d.roll(4) {
		s := api.Stmt{Kind: d.roll(11) - 1, At: d.roll(9) - 4, Name: d.anyName(), Of: d.anyName(), Labelled: d.roll(3) == 0, L: d.anyLabel()}
		for _, x := range d.anyExprs(2) {
			s.E = x
		}
		if deep > 0 {
			s.A, s.B = d.anyStmts(deep-1), d.anyStmts(deep-1)
		}
		l = append(l, s)
	}
	return l
}

// anything makes a program of any data.
func (d *thrower) anything() api.Program {
	var p api.Program
	for range d.roll(3) {
		p.Chiefs = append(p.Chiefs, d.anyName())
		p.Chans = append(p.Chans, api.Chan{Name: d.anyName(), In: d.roll(2) == 0, Type: d.roll(4) - 1, L: d.anyLabel()})
	}
	for range d.roll(3) {
		q := api.Proc{At: d.roll(9) - 4, Name: d.one("main", "x", ""), Body: d.anyStmts(d.roll(3))}
		for range d.roll(2) {
			q.Params = append(q.Params, api.Param{Name: d.anyName(), Type: d.roll(4) - 1})
		}
		p.Procs = append(p.Procs, q)
	}
	return p
}

// anyLists makes some of any length.
func (d *thrower) anyLists() [][]int {
	var in [][]int
	for range d.roll(4) {
		in = append(in, make([]int, d.roll(3)*d.roll(2)))
	}
	return in
}

// What lies where.

// spoil changes all of x.
func spoil(x reflect.Value) {
	switch x.Kind() {
	case reflect.String:
		x.SetString("spoilt")
	case reflect.Int:
		x.SetInt(-7)
	case reflect.Struct:
		for i := range x.NumField() {
			spoil(x.Field(i))
		}
	case reflect.Array, reflect.Slice:
		for i := range x.Len() {
			spoil(x.Index(i))
		}
	}
}

// roomy answers x, with spare room behind each list of it, in which something stands.
func roomy(x reflect.Value) reflect.Value {
	out := reflect.New(x.Type()).Elem()
	switch x.Kind() {
	case reflect.Struct:
		for i := range x.NumField() {
			out.Field(i).Set(roomy(x.Field(i)))
		}
	case reflect.Slice:
		out = reflect.MakeSlice(x.Type(), x.Len()+1, x.Len()+1)
		for i := range x.Len() {
			out.Index(i).Set(roomy(x.Index(i)))
		}
		spoil(out.Index(x.Len()))
		out = out.Slice(0, x.Len())
	default:
		out.Set(x)
	}
	return out
}

// unfolded answers x, with the spare room behind each list as part of it.
func unfolded(x reflect.Value) reflect.Value {
	out := reflect.New(x.Type()).Elem()
	switch x.Kind() {
	case reflect.Struct:
		for i := range x.NumField() {
			out.Field(i).Set(unfolded(x.Field(i)))
		}
	case reflect.Slice:
		out = reflect.MakeSlice(x.Type(), x.Cap(), x.Cap())
		for i := range x.Cap() {
			out.Index(i).Set(unfolded(x.Slice(0, x.Cap()).Index(i)))
		}
	default:
		out.Set(x)
	}
	return out
}
