package tag

import (
	"fmt"
	"math"
	"math/bits"
	"reflect"
	"slices"
	"strconv"
	"strings"
	"testing"
	"unsafe"

	"cloister/api"
	"cloister/label"
	"cloister/parse"
	"cloister/run"
)

// read answers the program of a text.
func read(t *testing.T, s string) api.Program {
	t.Helper()
	p, f := parse.Program(s)
	if f.Code != api.OK {
		t.Fatalf("%q: %v", s, f)
	}
	return p
}

// lists: those of `i=1,2 j=3`, channel by channel of p.
func lists(t *testing.T, p api.Program, s string) [][]int {
	t.Helper()
	in := make([][]int, len(p.Chans))
	for _, one := range strings.Fields(s) {
		name, l, _ := strings.Cut(one, "=")
		i := slices.IndexFunc(p.Chans, func(c api.Chan) bool { return c.Name == name })
		for _, n := range strings.Split(l, ",") {
			k, err := strconv.Atoi(n)
			if err != nil || i < 0 {
				t.Fatalf("%q: %v", s, err)
			}
			in[i] = append(in[i], k)
		}
	}
	return in
}

// told: events, each as `channel number label`; of a release `! number label`.
func told(l []api.Event) string {
	var out []string
	for _, e := range l {
		name := e.Chan
		if name == "" {
			name = "!"
		}
		text, _ := label.Print(e.L)
		out = append(out, name+" "+strconv.Itoa(e.N)+" "+text)
	}
	return strings.Join(out, "; ")
}

// whole tells all of x, in which lists of nothing are alike.
func whole(x any) string { return fmt.Sprintf("%+v", x) }

// bare tells all of t but the labels.
func bare(t api.Trace) string {
	t.Events = slices.Clone(t.Events)
	for i := range t.Events {
		t.Events[i].L = nil
	}
	return whole(t)
}

// must: chapter 3 tells no error.
func must[T any](x T, code api.Errno) T {
	if code != api.OK {
		panic(fmt.Sprint("chapter 3 tells ", code))
	}
	return x
}

// Expressions and statements.

func v(s string) api.Expr { return api.Expr{Kind: api.Var, Name: s} }

func num(n int) api.Expr { return api.Expr{Kind: api.Lit, Type: api.Int, N: n} }

func flag(n int) api.Expr { return api.Expr{Kind: api.Lit, Type: api.Bool, N: n} }

func op(s string, l ...api.Expr) api.Expr { return api.Expr{Kind: api.Op, Name: s, A: l} }

func release(l api.Label, x api.Expr) api.Expr {
	return api.Expr{Kind: api.Release, L: l, A: []api.Expr{x}}
}

func send(s string, x api.Expr) api.Stmt { return api.Stmt{Kind: api.Send, Name: s, E: x} }

func when(l ...api.Stmt) api.Stmt { return api.Stmt{Kind: api.If, E: flag(1), A: l} }

// prog: a program of a channel o and a main with these statements.
func prog(l ...api.Stmt) api.Program {
	return api.Program{Chans: []api.Chan{{Name: "o", Type: api.Int}}, Procs: []api.Proc{{Name: "main", Body: l}}}
}

// six chiefs, with names as long as may be.
func six() []string {
	var l []string
	for _, end := range strings.Split("abcdef", "") {
		l = append(l, strings.Repeat("x", api.MaxName-1)+end)
	}
	return l
}

// policies answers all of these chiefs with so many Readers, none of which is the Owner.
func policies(chiefs []string, readers int) api.Label {
	var l api.Label
	for i, owner := range chiefs {
		for g := range 1 << len(chiefs) {
			if g>>i&1 == 1 || bits.OnesCount(uint(g)) != readers {
				continue
			}
			p := api.Policy{Owner: owner}
			for j, name := range chiefs {
				if g>>j&1 == 1 {
					p.Readers = append(p.Readers, name)
				}
			}
			l = append(l, p)
		}
	}
	return l
}

// What the chapter says, by other means.

// bag is the policies that are borne, by how they are printed, rising. Nothing is left out that is covered.
type bag []string

func (b bag) with(c bag) bag {
	return slices.Compact(slices.Sorted(slices.Values(slices.Concat(b, c))))
}

// bagOf answers the policies of l.
func bagOf(l api.Label) bag {
	var b bag
	for _, p := range l {
		b = append(b, must(label.Print(api.Label{p})))
	}
	return b.with(nil)
}

// label answers what b is, Normal.
func (b bag) label(p *api.Program) api.Label {
	var l api.Label
	for _, text := range b {
		one, _ := parse.Label(text)
		l = append(l, one...)
	}
	return must(label.Normal(p.Chiefs, p.Acts, l))
}

// cell is a number with what it bears.
type cell struct {
	n int
	b bag
}

// order is one of a list that a machine goes through: what it does hangs on its word.
type order struct {
	word   string
	n      int
	name   string
	of     int // a type
	b      bag
	params []api.Param
}

// machine has a program as one list of orders, a pile of numbers, and a pile of calls: it calls nothing itself.
type machine struct {
	p      *api.Program
	orders []order
	first  map[string]int // of each procedure
	most   int            // how many policies a bag had at most
}

// assembled answers p as orders.
func assembled(p api.Program) *machine {
	m := &machine{p: &p, first: map[string]int{}}
	for _, q := range p.Procs {
		m.first[q.Name] = len(m.orders)
		m.add(order{word: "enter", params: q.Params})
		m.stmts(q.Body)
		// A Return is the last one: it has laid what is given back.
		if q.Result.Type == api.None {
			m.add(order{word: "push"})
		}
		m.add(order{word: "leave"})
	}
	return m
}

// add answers where o is.
func (m *machine) add(o order) int {
	m.orders = append(m.orders, o)
	return len(m.orders) - 1
}

func (m *machine) stmts(l []api.Stmt) {
	for _, s := range l {
		m.add(order{word: "step"})
		again := len(m.orders)
		if s.Kind != api.Take {
			m.expr(s.E)
		}
		switch s.Kind {
		case api.Let, api.Set:
			m.add(order{word: "here"})
			m.add(order{word: "put", name: s.Name})
		case api.If:
			m.add(order{word: "in"})
			other := m.add(order{word: "unless"})
			m.stmts(s.A)
			over := m.add(order{word: "go"})
			m.orders[other].n = len(m.orders)
			m.stmts(s.B)
			m.orders[over].n = m.add(order{word: "out"})
		case api.While:
			m.add(order{word: "in"})
			leave := m.add(order{word: "unless"})
			m.stmts(s.A)
			m.add(order{word: "out"})
			m.add(order{word: "go", n: again})
			m.orders[leave].n = m.add(order{word: "out"})
		case api.Send:
			m.add(order{word: "here"})
			m.add(order{word: "tell", name: s.Name})
			m.add(order{word: "drop"})
		case api.Take:
			for i, c := range m.p.Chans {
				if c.Name == s.Of {
					m.add(order{word: "take", n: i, of: c.Type, b: bagOf(c.L)})
				}
			}
			m.add(order{word: "here"})
			m.add(order{word: "put", name: s.Name})
		case api.Do:
			m.add(order{word: "drop"})
		case api.Return:
			m.add(order{word: "here"})
		}
	}
}

func (m *machine) expr(x api.Expr) {
	m.add(order{word: "step"})
	for _, y := range x.A {
		m.expr(y)
		if x.Kind == api.Call {
			m.add(order{word: "here"})
		}
	}
	switch x.Kind {
	case api.Lit:
		m.add(order{word: "push", n: x.N})
	case api.Var:
		m.add(order{word: "get", name: x.Name})
	case api.Op:
		m.add(order{word: "sign", name: x.Name, n: len(x.A)})
	case api.Call:
		m.add(order{word: "call", name: x.Name})
	case api.Release:
		m.add(order{word: "only", b: bagOf(x.L)})
		m.add(order{word: "tell"})
	}
}

// call is a procedure that has been called: its PCs are those of the blocks that are done, the last one that of the innermost.
type call struct {
	vars map[string]cell
	pcs  []bag
	back int
}

func (c *call) pc() bag { return c.pcs[len(c.pcs)-1] }

// run answers the trace of main, and why it ended: fuel, calls, or done.
func (m *machine) run(in [][]int, fuel int) (t api.Trace, why string) {
	taken := make([]int, len(in))
	calls, pile := []call{{back: -1, pcs: []bag{nil}}}, []cell{}
	pop := func() cell {
		c := pile[len(pile)-1]
		pile = pile[:len(pile)-1]
		return c
	}
	for at := m.first["main"]; ; at++ {
		last := &calls[len(calls)-1]
		switch o := m.orders[at]; o.word {
		case "step":
			if t.Steps >= fuel {
				return t, "fuel"
			}
			t.Steps++
		case "enter":
			last.vars = map[string]cell{}
			for _, q := range slices.Backward(o.params) {
				last.vars[q.Name] = pop()
			}
		case "leave":
			at = last.back
			calls = calls[:len(calls)-1]
			if len(calls) == 0 {
				t.Done = true
				return t, "done"
			}
		case "call":
			if len(calls) >= api.MaxCalls {
				return t, "calls"
			}
			calls = append(calls, call{back: at, pcs: []bag{last.pc()}})
			at = m.first[o.name] - 1
		case "push":
			pile = append(pile, cell{n: o.n})
		case "drop":
			pop()
		case "get":
			pile = append(pile, last.vars[o.name])
		case "put":
			last.vars[o.name] = pop()
		case "in":
			last.pcs = append(last.pcs, last.pc().with(pile[len(pile)-1].b))
		case "out":
			last.pcs = last.pcs[:len(last.pcs)-1]
		case "unless":
			if pop().n == 0 {
				at = o.n - 1
			}
		case "go":
			at = o.n - 1
		case "take":
			c := cell{b: o.b}
			if taken[o.n] < len(in[o.n]) {
				c.n = in[o.n][taken[o.n]]
				taken[o.n]++
			}
			if o.of == api.Bool && c.n != 0 {
				c.n = 1
			}
			pile = append(pile, c)
		case "here":
			c := pop()
			pile = append(pile, cell{c.n, c.b.with(last.pc())})
		case "only":
			pile = append(pile, cell{pop().n, o.b})
		case "tell":
			c := pile[len(pile)-1]
			m.most = max(m.most, len(c.b))
			t.Events = append(t.Events, api.Event{Chan: o.name, N: c.n, L: c.b.label(m.p)})
		case "sign":
			b, a := pop(), cell{n: map[string]int{"!": 1}[o.name]}
			name := "-"
			if o.n == 2 {
				a, name = pop(), o.name
			}
			n, _ := run.Reckon(name, a.n, b.n)
			pile = append(pile, cell{n, a.b.with(b.b)})
		}
	}
}

// thrower answers numbers that look as if by chance, the same ones each time.
type thrower struct{ state uint64 }

func dice(seed int) *thrower { return &thrower{uint64(seed)*2654435761 + 1} }

func (d *thrower) roll(n int) int {
	d.state = d.state*6364136223846793005 + 1442695040888963407
	return int((d.state >> 33) % uint64(n))
}

func (d *thrower) one(of ...string) string { return of[d.roll(len(of))] }

func (d *thrower) kind() int { return api.Int + d.roll(2) }

// maker makes programs in which names and types are right.
type maker struct {
	*thrower
	tame   bool // labels are mostly such that the program may be taken by chapter 9
	shared bool // lists are laid elsewhere, too
	long   int  // how many statements a list has, one less
	p      api.Program
	vars   []api.Param
	lists  [][]api.Stmt
}

func (m *maker) program() api.Program {
	m.p.Chiefs = []string{"c", "a", "b", "d"}[:1+m.roll(4)]
	for range m.roll(4) {
		m.p.Acts = append(m.p.Acts, [2]string{m.who(), m.who()})
	}
	for _, name := range []string{"i", "o", "j", "p", "k", "q"} {
		in := name < "l"
		c := api.Chan{Name: name, In: in, Type: m.kind(), L: m.label()}
		if !in {
			c.L = m.goal()
		}
		m.p.Chans = append(m.p.Chans, c)
	}
	for _, name := range []string{"f", "main", "g", "h"} {
		m.p.Procs = append(m.p.Procs, m.head(name))
	}
	for i := range m.p.Procs {
		m.body(&m.p.Procs[i])
	}
	return m.p
}

// inputs makes lists for the channels of the program.
func (m *maker) inputs() [][]int {
	in := make([][]int, len(m.p.Chans))
	for i, c := range m.p.Chans {
		for range m.roll(8) {
			if c.In {
				in[i] = append(in[i], []int{0, 1, 2, 5, -1, -7, math.MaxInt, math.MinInt}[m.roll(8)])
			}
		}
	}
	return in
}

func (m *maker) who() string { return m.p.Chiefs[m.roll(len(m.p.Chiefs))] }

func (m *maker) label() api.Label {
	var l api.Label
	for range m.roll(4) {
		p := api.Policy{Owner: m.who()}
		for range m.roll(4) {
			p.Readers = append(p.Readers, m.who())
		}
		l = append(l, p)
	}
	return l
}

// goal makes a label to which something is to go: in a tame program mostly one to which all may.
func (m *maker) goal() api.Label {
	if !m.tame || m.roll(16) == 0 {
		return m.label()
	}
	var l api.Label
	for _, c := range m.p.Chiefs {
		l = append(l, api.Policy{Owner: c})
	}
	return l
}

func (m *maker) head(name string) api.Proc {
	p := api.Proc{Name: name}
	if name != "main" {
		p.Begin = m.goal()
		for _, s := range []string{"x", "q", "y", "i"}[:m.roll(5)] {
			p.Params = append(p.Params, api.Param{Name: s, Type: m.kind(), L: m.goal()})
		}
		p.Result.Type = m.roll(3)
	}
	if p.Result.Type != api.None {
		p.Result.L = m.goal()
	}
	for range m.roll(3) {
		p.For = append(p.For, m.who())
	}
	return p
}

func (m *maker) body(p *api.Proc) {
	m.vars = slices.Clone(p.Params)
	p.Body = m.stmts(2)
	m.lists = append(m.lists, p.Body)
	if p.Result.Type != api.None {
		p.Body = append(p.Body, api.Stmt{Kind: api.Return, E: m.expr(p.Result.Type, 2)})
	}
}

// block makes statements, or takes those that lie elsewhere.
func (m *maker) block(deep int) []api.Stmt {
	if m.shared && len(m.lists) > 0 && m.roll(3) == 0 {
		return m.lists[m.roll(len(m.lists))]
	}
	n := len(m.vars)
	l := m.stmts(deep)
	m.vars = m.vars[:n]
	m.lists = append(m.lists, l)
	return l
}

func (m *maker) stmts(deep int) []api.Stmt {
	var l []api.Stmt
	for range m.roll(m.long) {
		l = append(l, m.stmt(deep))
	}
	return l
}

func (m *maker) stmt(deep int) api.Stmt {
	s := api.Stmt{Kind: 1 + m.roll(7)}
	if deep == 0 && (s.Kind == api.If || s.Kind == api.While) {
		s.Kind = api.Send
	}
	switch s.Kind {
	case api.Set:
		if q, ok := m.variable(0); ok {
			s.Name, s.E = q.Name, m.expr(q.Type, 2)
			return s
		}
	case api.Send:
		if c, ok := m.channel(false, 0); ok {
			s.Name, s.E = c.Name, m.expr(c.Type, 2)
			return s
		}
	case api.Take:
		if q, ok := m.variable(0); ok {
			if c, ok := m.channel(true, q.Type); ok {
				s.Name, s.Of = q.Name, c.Name
				return s
			}
		}
	case api.Do:
		s.E = m.call(&m.p.Procs[m.roll(len(m.p.Procs))], 2)
		return s
	case api.If, api.While:
		s.E, s.A = m.expr(api.Bool, 2), m.block(deep-1)
		if s.Kind == api.If {
			s.B = m.block(deep - 1)
		}
		return s
	}
	return m.let(s)
}

// let makes a variable that isn't there, or sets one.
func (m *maker) let(s api.Stmt) api.Stmt {
	free := slices.DeleteFunc([]string{"x", "y", "z", "q", "main", "i", "s", "t", "u"}, func(name string) bool {
		return slices.ContainsFunc(m.vars, func(q api.Param) bool { return q.Name == name })
	})
	if len(free) == 0 {
		q, _ := m.variable(0)
		s.Kind, s.Name, s.E = api.Set, q.Name, m.expr(q.Type, 2)
		return s
	}
	t := m.kind()
	s.Kind, s.Labelled = api.Let, m.roll(4) == 0
	if s.Labelled {
		s.L = m.goal()
	}
	s.Name, s.E = m.one(free...), m.expr(t, 2)
	m.vars = append(m.vars, api.Param{Name: s.Name, Type: t})
	return s
}

// variable answers one of this type, 0: of any.
func (m *maker) variable(t int) (api.Param, bool) {
	l := slices.DeleteFunc(slices.Clone(m.vars), func(q api.Param) bool { return t != 0 && q.Type != t })
	if len(l) == 0 {
		return api.Param{}, false
	}
	return l[m.roll(len(l))], true
}

// channel answers one that comes in, or goes out, of this type, 0: of any.
func (m *maker) channel(in bool, t int) (api.Chan, bool) {
	l := slices.DeleteFunc(slices.Clone(m.p.Chans), func(c api.Chan) bool { return c.In != in || t != 0 && c.Type != t })
	if len(l) == 0 {
		return api.Chan{}, false
	}
	return l[m.roll(len(l))], true
}

func (m *maker) call(p *api.Proc, deep int) api.Expr {
	x := api.Expr{Kind: api.Call, Name: p.Name}
	for _, q := range p.Params {
		x.A = append(x.A, m.expr(q.Type, deep-1))
	}
	return x
}

// expr makes an expression of the type t.
func (m *maker) expr(t, deep int) api.Expr {
	kinds := 8
	if deep <= 0 {
		kinds = 4
	}
	switch m.roll(kinds) {
	case 1, 2, 3:
		if q, ok := m.variable(t); ok {
			return v(q.Name)
		}
	case 4, 5:
		return m.op(t, deep-1)
	case 6:
		return release(m.goal(), m.expr(t, deep-1))
	case 7:
		if p := &m.p.Procs[m.roll(len(m.p.Procs))]; p.Result.Type == t {
			return m.call(p, deep)
		}
	}
	if t == api.Bool {
		return flag(m.roll(2))
	}
	return num([]int{0, 1, 2, 3, 10, 999999999}[m.roll(6)])
}

// op makes a sign, with what it asks for.
func (m *maker) op(t, deep int) api.Expr {
	if t == api.Int {
		if m.roll(6) == 0 {
			return op("-", m.expr(t, deep))
		}
		return op(m.one("+", "-", "*", "/", "%"), m.expr(t, deep), m.expr(t, deep))
	}
	switch s := m.one("!", "&&", "||", "==", "!=", "<", "<=", ">", ">="); s {
	case "!":
		return op(s, m.expr(t, deep))
	case "&&", "||":
		return op(s, m.expr(t, deep), m.expr(t, deep))
	case "==", "!=":
		k := m.kind()
		return op(s, m.expr(k, deep), m.expr(k, deep))
	default:
		return op(s, m.expr(api.Int, deep), m.expr(api.Int, deep))
	}
}

// Programs of no form.

func (d *thrower) anyName() string { return d.one("", "x", "main", "if", "\xff", "a b") }

func (d *thrower) anyLabel() api.Label {
	var l api.Label
	for range d.roll(6) - 3 {
		l = append(l, api.Policy{Owner: d.anyName(), Readers: []string{d.anyName()}})
	}
	return l
}

func (d *thrower) anyExprs(deep int) []api.Expr {
	var l []api.Expr
	for range d.roll(3) {
		x := api.Expr{Kind: d.roll(8) - 1, N: d.roll(9) - 4, Type: d.roll(4), Name: d.anyName(), L: d.anyLabel()}
		if deep > 0 {
			x.A = d.anyExprs(deep - 1)
		}
		l = append(l, x)
	}
	return l
}

func (d *thrower) anyStmts(deep int) []api.Stmt {
	var l []api.Stmt
	for range d.roll(4) {
		s := api.Stmt{Kind: d.roll(11) - 1, At: d.roll(9) - 4, Name: d.anyName(), Of: d.anyName(), Labelled: d.roll(3) == 0, L: d.anyLabel()}
		for _, x := range d.anyExprs(2) {
			s.E = x
		}
		if deep > 0 {
			s.A, s.B = d.anyStmts(deep-1), d.anyStmts(deep-1)
		}
		l = append(l, s)
	}
	return l
}

// anything makes a program of any data, and lists.
func (d *thrower) anything() (api.Program, [][]int) {
	var p api.Program
	var in [][]int
	for range d.roll(3) {
		p.Chiefs = append(p.Chiefs, d.anyName())
		p.Chans = append(p.Chans, api.Chan{Name: d.anyName(), In: d.roll(2) == 0, Type: d.roll(4) - 1, L: d.anyLabel()})
	}
	for range d.roll(3) {
		in = append(in, make([]int, d.roll(3)))
	}
	for range d.roll(3) {
		q := api.Proc{At: d.roll(9) - 4, Name: d.one("main", "x", ""), Body: d.anyStmts(d.roll(3))}
		for range d.roll(2) {
			q.Params = append(q.Params, api.Param{Name: d.anyName(), Type: d.roll(4) - 1})
		}
		p.Procs = append(p.Procs, q)
	}
	return p, in
}

// What lies where.

// pieces shows where the lists and names of x lie.
func pieces(x reflect.Value, see func(at unsafe.Pointer, what string)) {
	switch x.Kind() {
	case reflect.String:
		if x.Len() > 0 {
			see(unsafe.Pointer(unsafe.StringData(x.String())), x.String())
		}
	case reflect.Interface:
		pieces(x.Elem(), see)
	case reflect.Struct:
		for i := range x.NumField() {
			pieces(x.Field(i), see)
		}
	case reflect.Array:
		for i := range x.Len() {
			pieces(x.Index(i), see)
		}
	case reflect.Slice:
		for i := range x.Len() {
			pieces(x.Index(i), see)
		}
		if x.Cap() > 0 {
			see(x.UnsafePointer(), fmt.Sprint(x.Type()))
		}
	}
}

// spoil changes all of x.
func spoil(x reflect.Value) {
	switch x.Kind() {
	case reflect.String:
		x.SetString("spoilt")
	case reflect.Int:
		x.SetInt(-7)
	case reflect.Struct:
		for i := range x.NumField() {
			spoil(x.Field(i))
		}
	case reflect.Array, reflect.Slice:
		for i := range x.Len() {
			spoil(x.Index(i))
		}
	}
}

// roomy answers x, with spare room behind each list of it, in which something stands.
func roomy(x reflect.Value) reflect.Value {
	out := reflect.New(x.Type()).Elem()
	switch x.Kind() {
	case reflect.Struct:
		for i := range x.NumField() {
			out.Field(i).Set(roomy(x.Field(i)))
		}
	case reflect.Slice:
		out = reflect.MakeSlice(x.Type(), x.Len()+1, x.Len()+1)
		for i := range x.Len() {
			out.Index(i).Set(roomy(x.Index(i)))
		}
		spoil(out.Index(x.Len()))
		out = out.Slice(0, x.Len())
	default:
		out.Set(x)
	}
	return out
}

// unfolded answers x, with the spare room behind each list as part of it.
func unfolded(x reflect.Value) reflect.Value {
	out := reflect.New(x.Type()).Elem()
	switch x.Kind() {
	case reflect.Struct:
		for i := range x.NumField() {
			out.Field(i).Set(unfolded(x.Field(i)))
		}
	case reflect.Slice:
		out = reflect.MakeSlice(x.Type(), x.Cap(), x.Cap())
		for i := range x.Cap() {
			out.Index(i).Set(unfolded(x.Slice(0, x.Cap()).Index(i)))
		}
	default:
		out.Set(x)
	}
	return out
}
