package run

import (
	"fmt"
	"math"
	"math/big"
	"reflect"
	"slices"
	"strconv"
	"strings"
	"testing"
	"unsafe"

	"cloister/api"
	"cloister/label"
	"cloister/parse"
)

// read answers the program of a text.
func read(t *testing.T, s string) api.Program {
	t.Helper()
	p, f := parse.Program(s)
	if f.Code != api.OK {
		t.Fatalf("%q: %v", s, f)
	}
	return p
}

// lists: those of `i=1,2 j=3`, channel by channel of p.
func lists(t *testing.T, p api.Program, s string) [][]int {
	t.Helper()
	in := make([][]int, len(p.Chans))
	for _, one := range strings.Fields(s) {
		name, l, _ := strings.Cut(one, "=")
		i := slices.IndexFunc(p.Chans, func(c api.Chan) bool { return c.Name == name })
		for _, n := range strings.Split(l, ",") {
			k, err := strconv.Atoi(n)
			if err != nil || i < 0 {
				t.Fatalf("%q: %v", s, err)
			}
			in[i] = append(in[i], k)
		}
	}
	return in
}

// told: events, each as `channel number label`; of a release `! number label`.
func told(l []api.Event) string {
	var out []string
	for _, e := range l {
		name := e.Chan
		if name == "" {
			name = "!"
		}
		text, _ := label.Print(e.L)
		out = append(out, name+" "+strconv.Itoa(e.N)+" "+text)
	}
	return strings.Join(out, "; ")
}

// whole tells all of x, in which lists of nothing are alike.
func whole(x any) string { return fmt.Sprintf("%+v", x) }

// Expressions and statements.

func v(s string) api.Expr { return api.Expr{Kind: api.Var, Name: s} }

func num(n int) api.Expr { return api.Expr{Kind: api.Lit, Type: api.Int, N: n} }

func flag(n int) api.Expr { return api.Expr{Kind: api.Lit, Type: api.Bool, N: n} }

func op(s string, l ...api.Expr) api.Expr { return api.Expr{Kind: api.Op, Name: s, A: l} }

func send(s string, x api.Expr) api.Stmt { return api.Stmt{Kind: api.Send, Name: s, E: x} }

func when(l ...api.Stmt) api.Stmt { return api.Stmt{Kind: api.If, E: flag(1), A: l} }

// prog: a program of a channel o and a main with these statements.
func prog(l ...api.Stmt) api.Program {
	return api.Program{Chans: []api.Chan{{Name: "o", Type: api.Int}}, Procs: []api.Proc{{Name: "main", Body: l}}}
}

// What the chapter says, by other means.

// signs are those that stand between two.
var signs = strings.Fields("|| && == != < <= > >= + - * / %")

// reckoned answers what a and b come to, by numbers that don't go round.
func reckoned(sign string, a, b int) int {
	x, y := big.NewInt(int64(a)), big.NewInt(int64(b))
	truth := map[string]bool{
		"||": x.Sign() != 0 || y.Sign() != 0, "&&": x.Sign()*y.Sign() != 0,
		"==": x.Cmp(y) == 0, "!=": x.Cmp(y) != 0,
		"<": x.Cmp(y) < 0, "<=": x.Cmp(y) <= 0, ">": x.Cmp(y) > 0, ">=": x.Cmp(y) >= 0,
	}
	if is, ok := truth[sign]; ok {
		return map[bool]int{true: 1}[is]
	}
	z := new(big.Int)
	switch {
	case sign == "+":
		z.Add(x, y)
	case sign == "-":
		z.Sub(x, y)
	case sign == "*":
		z.Mul(x, y)
	case y.Sign() == 0:
	case sign == "/":
		z.Quo(x, y)
	case sign == "%":
		z.Rem(x, y)
	}
	return round(z)
}

// round answers what is left of z if it goes round.
func round(z *big.Int) int {
	all := new(big.Int).Lsh(big.NewInt(1), strconv.IntSize)
	half := new(big.Int).Rsh(all, 1)
	z.Add(z, half).Mod(z, all).Sub(z, half)
	return int(z.Int64())
}

// order is one of a list that a machine goes through: what it does hangs on its word.
type order struct {
	word   string
	n      int
	name   string
	of     string
	label  api.Label
	params []api.Param
}

// machine has a program as one list of orders, a pile of numbers, and a pile of calls: it calls nothing itself.
type machine struct {
	orders []order
	first  map[string]int // of each procedure
}

// assembled answers p as orders.
func assembled(p api.Program) *machine {
	m := &machine{first: map[string]int{}}
	for _, q := range p.Procs {
		m.first[q.Name] = len(m.orders)
		m.add(order{word: "enter", params: q.Params})
		m.stmts(p, q.Body)
		// A Return is the last one: it has laid what is given back.
		if q.Result.Type == api.None {
			m.add(order{word: "push"})
		}
		m.add(order{word: "leave"})
	}
	return m
}

// add answers where o is.
func (m *machine) add(o order) int {
	m.orders = append(m.orders, o)
	return len(m.orders) - 1
}

func (m *machine) stmts(p api.Program, l []api.Stmt) {
	for _, s := range l {
		m.add(order{word: "step"})
		again := len(m.orders)
		if s.Kind != api.Take {
			m.expr(s.E)
		}
		switch s.Kind {
		case api.Let, api.Set:
			m.add(order{word: "put", name: s.Name})
		case api.If, api.While:
			leave := m.add(order{word: "unless"})
			m.stmts(p, s.A)
			over := m.add(order{word: "go", n: again})
			m.orders[leave].n = len(m.orders)
			m.stmts(p, s.B)
			if s.Kind == api.If {
				m.orders[over].n = len(m.orders)
			}
		case api.Send:
			for _, c := range p.Chans {
				if c.Name == s.Name {
					m.add(order{word: "tell", name: s.Name, label: c.L})
				}
			}
			m.add(order{word: "drop"})
		case api.Take:
			for i, c := range p.Chans {
				if c.Name == s.Of {
					m.add(order{word: "take", n: i, of: map[int]string{api.Bool: "bool"}[c.Type]})
				}
			}
			m.add(order{word: "put", name: s.Name})
		case api.Do:
			m.add(order{word: "drop"})
		}
	}
}

func (m *machine) expr(x api.Expr) {
	m.add(order{word: "step"})
	for _, y := range x.A {
		m.expr(y)
	}
	switch x.Kind {
	case api.Lit:
		m.add(order{word: "push", n: x.N})
	case api.Var:
		m.add(order{word: "get", name: x.Name})
	case api.Op:
		m.add(order{word: "sign", name: x.Name, n: len(x.A)})
	case api.Call:
		m.add(order{word: "call", name: x.Name})
	case api.Release:
		m.add(order{word: "tell", label: x.L})
	}
}

// run answers the trace of main, and why it ended: fuel, calls, or done.
func (m *machine) run(in [][]int, fuel int) (t api.Trace, why string) {
	type call struct {
		vars map[string]int
		back int
	}
	taken := make([]int, len(in))
	calls, pile := []call{{back: -1}}, []int{}
	pop := func() int {
		n := pile[len(pile)-1]
		pile = pile[:len(pile)-1]
		return n
	}
	for at := m.first["main"]; ; at++ {
		top := &calls[len(calls)-1]
		switch o := m.orders[at]; o.word {
		case "step":
			if t.Steps >= fuel {
				return t, "fuel"
			}
			t.Steps++
		case "enter":
			top.vars = map[string]int{}
			for _, q := range slices.Backward(o.params) {
				top.vars[q.Name] = pop()
			}
		case "leave":
			at = top.back
			calls = calls[:len(calls)-1]
			if len(calls) == 0 {
				t.Done = true
				return t, "done"
			}
		case "call":
			if len(calls) >= api.MaxCalls {
				return t, "calls"
			}
			calls = append(calls, call{back: at})
			at = m.first[o.name] - 1
		case "push":
			pile = append(pile, o.n)
		case "drop":
			pop()
		case "get":
			pile = append(pile, top.vars[o.name])
		case "put":
			top.vars[o.name] = pop()
		case "unless":
			if pop() == 0 {
				at = o.n - 1
			}
		case "go":
			at = o.n - 1
		case "take":
			n := 0
			if taken[o.n] < len(in[o.n]) {
				n = in[o.n][taken[o.n]]
				taken[o.n]++
			}
			if o.of == "bool" && n != 0 {
				n = 1
			}
			pile = append(pile, n)
		case "tell":
			t.Events = append(t.Events, api.Event{Chan: o.name, N: pile[len(pile)-1], L: o.label})
		case "sign":
			b, a := pop(), map[string]int{"!": 1}[o.name]
			if o.n == 2 {
				pile = append(pile, reckoned(o.name, pop(), b))
			} else {
				pile = append(pile, reckoned("-", a, b))
			}
		}
	}
}

// thrower answers numbers that look as if by chance, the same ones each time.
type thrower struct{ state uint64 }

func dice(seed int) *thrower { return &thrower{uint64(seed)*2654435761 + 1} }

func (d *thrower) roll(n int) int {
	d.state = d.state*6364136223846793005 + 1442695040888963407
	return int((d.state >> 33) % uint64(n))
}

func (d *thrower) one(of ...string) string { return of[d.roll(len(of))] }

func (d *thrower) kind() int { return api.Int + d.roll(2) }

// maker makes programs in which names and types are right.
type maker struct {
	*thrower
	shared bool // lists are laid elsewhere, too
	long   int  // how many statements a list has, one less
	p      api.Program
	vars   []api.Param
	lists  [][]api.Stmt
}

func (m *maker) program() api.Program {
	m.p.Chiefs = []string{"c", "a", "b"}
	m.p.Acts = [][2]string{{"b", "a"}}
	for _, name := range []string{"i", "o", "j", "p", "k", "q"} {
		in := name < "l"
		m.p.Chans = append(m.p.Chans, api.Chan{Name: name, In: in, Type: m.kind(), L: m.label()})
	}
	for _, name := range []string{"f", "main", "g", "h"} {
		m.p.Procs = append(m.p.Procs, m.head(name))
	}
	for i := range m.p.Procs {
		m.body(&m.p.Procs[i])
	}
	return m.p
}

// inputs makes lists for the channels of the program.
func (m *maker) inputs() [][]int {
	in := make([][]int, len(m.p.Chans))
	for i, c := range m.p.Chans {
		for range m.roll(8) {
			if c.In {
				in[i] = append(in[i], []int{0, 1, 2, 5, -1, -7, math.MaxInt, math.MinInt}[m.roll(8)])
			}
		}
	}
	return in
}

func (m *maker) label() api.Label {
	var l api.Label
	for range m.roll(3) {
		p := api.Policy{Owner: m.one(m.p.Chiefs...)}
		for range m.roll(3) {
			p.Readers = append(p.Readers, m.one(m.p.Chiefs...))
		}
		l = append(l, p)
	}
	return l
}

func (m *maker) head(name string) api.Proc {
	p := api.Proc{Name: name, Begin: m.label()}
	if name != "main" {
		for _, s := range []string{"x", "q", "y", "i"}[:m.roll(5)] {
			p.Params = append(p.Params, api.Param{Name: s, Type: m.kind(), L: m.label()})
		}
		p.Result.Type = m.roll(3)
	}
	return p
}

func (m *maker) body(p *api.Proc) {
	m.vars = slices.Clone(p.Params)
	p.Body = m.stmts(2)
	m.lists = append(m.lists, p.Body)
	if p.Result.Type != api.None {
		p.Body = append(p.Body, api.Stmt{Kind: api.Return, E: m.expr(p.Result.Type, 2)})
	}
}

// block makes statements, or takes those that lie elsewhere.
func (m *maker) block(deep int) []api.Stmt {
	if m.shared && len(m.lists) > 0 && m.roll(3) == 0 {
		return m.lists[m.roll(len(m.lists))]
	}
	n := len(m.vars)
	l := m.stmts(deep)
	m.vars = m.vars[:n]
	m.lists = append(m.lists, l)
	return l
}

func (m *maker) stmts(deep int) []api.Stmt {
	var l []api.Stmt
	for range m.roll(m.long) {
		l = append(l, m.stmt(deep))
	}
	return l
}

func (m *maker) stmt(deep int) api.Stmt {
	s := api.Stmt{Kind: 1 + m.roll(7)}
	if deep == 0 && (s.Kind == api.If || s.Kind == api.While) {
		s.Kind = api.Send
	}
	switch s.Kind {
	case api.Set:
		if q, ok := m.variable(0); ok {
			s.Name, s.E = q.Name, m.expr(q.Type, 2)
			return s
		}
	case api.Send:
		if c, ok := m.channel(false, 0); ok {
			s.Name, s.E = c.Name, m.expr(c.Type, 2)
			return s
		}
	case api.Take:
		if q, ok := m.variable(0); ok {
			if c, ok := m.channel(true, q.Type); ok {
				s.Name, s.Of = q.Name, c.Name
				return s
			}
		}
	case api.Do:
		s.E = m.call(&m.p.Procs[m.roll(len(m.p.Procs))], 2)
		return s
	case api.If, api.While:
		s.E, s.A = m.expr(api.Bool, 2), m.block(deep-1)
		if s.Kind == api.If {
			s.B = m.block(deep - 1)
		}
		return s
	}
	return m.let(s)
}

// let makes a variable that isn't there, or sets one.
func (m *maker) let(s api.Stmt) api.Stmt {
	free := slices.DeleteFunc([]string{"x", "y", "z", "q", "main", "i", "s", "t", "u"}, func(name string) bool {
		return slices.ContainsFunc(m.vars, func(q api.Param) bool { return q.Name == name })
	})
	if len(free) == 0 {
		q, _ := m.variable(0)
		s.Kind, s.Name, s.E = api.Set, q.Name, m.expr(q.Type, 2)
		return s
	}
	t := m.kind()
	s.Kind, s.Name, s.E = api.Let, m.one(free...), m.expr(t, 2)
	m.vars = append(m.vars, api.Param{Name: s.Name, Type: t})
	return s
}

// variable answers one of this type, 0: of any.
func (m *maker) variable(t int) (api.Param, bool) {
	l := slices.DeleteFunc(slices.Clone(m.vars), func(q api.Param) bool { return t != 0 && q.Type != t })
	if len(l) == 0 {
		return api.Param{}, false
	}
	return l[m.roll(len(l))], true
}

// channel answers one that comes in, or goes out, of this type, 0: of any.
func (m *maker) channel(in bool, t int) (api.Chan, bool) {
	l := slices.DeleteFunc(slices.Clone(m.p.Chans), func(c api.Chan) bool { return c.In != in || t != 0 && c.Type != t })
	if len(l) == 0 {
		return api.Chan{}, false
	}
	return l[m.roll(len(l))], true
}

func (m *maker) call(p *api.Proc, deep int) api.Expr {
	x := api.Expr{Kind: api.Call, Name: p.Name}
	for _, q := range p.Params {
		x.A = append(x.A, m.expr(q.Type, deep-1))
	}
	return x
}

// expr makes an expression of the type t.
func (m *maker) expr(t, deep int) api.Expr {
	kinds := 7
	if deep <= 0 {
		kinds = 3
	}
	switch m.roll(kinds) {
	case 1, 2:
		if q, ok := m.variable(t); ok {
			return v(q.Name)
		}
	case 3, 4:
		return m.op(t, deep-1)
	case 5:
		return api.Expr{Kind: api.Release, L: m.label(), A: []api.Expr{m.expr(t, deep-1)}}
	case 6:
		if p := &m.p.Procs[m.roll(len(m.p.Procs))]; p.Result.Type == t {
			return m.call(p, deep)
		}
	}
	if t == api.Bool {
		return flag(m.roll(2))
	}
	return num([]int{0, 1, 2, 3, 10, 999999999}[m.roll(6)])
}

// op makes a sign, with what it asks for.
func (m *maker) op(t, deep int) api.Expr {
	if t == api.Int {
		if m.roll(6) == 0 {
			return op("-", m.expr(t, deep))
		}
		return op(m.one("+", "-", "*", "/", "%"), m.expr(t, deep), m.expr(t, deep))
	}
	switch s := m.one("!", "&&", "||", "==", "!=", "<", "<=", ">", ">="); s {
	case "!":
		return op(s, m.expr(t, deep))
	case "&&", "||":
		return op(s, m.expr(t, deep), m.expr(t, deep))
	case "==", "!=":
		k := m.kind()
		return op(s, m.expr(k, deep), m.expr(k, deep))
	default:
		return op(s, m.expr(api.Int, deep), m.expr(api.Int, deep))
	}
}

// Programs of no form.

func (d *thrower) anyName() string { return d.one("", "x", "main", "if", "\xff", "a b") }

func (d *thrower) anyExprs(deep int) []api.Expr {
	var l []api.Expr
	for range d.roll(3) {
		x := api.Expr{Kind: d.roll(8) - 1, N: d.roll(9) - 4, Type: d.roll(4), Name: d.anyName()}
		if deep > 0 {
			x.A = d.anyExprs(deep - 1)
		}
		l = append(l, x)
	}
	return l
}

func (d *thrower) anyStmts(deep int) []api.Stmt {
	var l []api.Stmt
	for range d.roll(4) {
		s := api.Stmt{Kind: d.roll(11) - 1, At: d.roll(9) - 4, Name: d.anyName(), Of: d.anyName(), Labelled: d.roll(3) == 0}
		for _, x := range d.anyExprs(2) {
			s.E = x
		}
		if deep > 0 {
			s.A, s.B = d.anyStmts(deep-1), d.anyStmts(deep-1)
		}
		l = append(l, s)
	}
	return l
}

// anything makes a program of any data, and lists.
func (d *thrower) anything() (api.Program, [][]int) {
	var p api.Program
	var in [][]int
	for range d.roll(3) {
		p.Chiefs = append(p.Chiefs, d.anyName())
		p.Chans = append(p.Chans, api.Chan{Name: d.anyName(), In: d.roll(2) == 0, Type: d.roll(4) - 1})
	}
	for range d.roll(3) {
		in = append(in, make([]int, d.roll(3)))
	}
	for range d.roll(3) {
		q := api.Proc{At: d.roll(9) - 4, Name: d.one("main", "x", ""), Body: d.anyStmts(d.roll(3))}
		for range d.roll(2) {
			q.Params = append(q.Params, api.Param{Name: d.anyName(), Type: d.roll(4) - 1})
		}
		p.Procs = append(p.Procs, q)
	}
	return p, in
}

// What lies where.

// pieces shows where the lists and names of x lie.
func pieces(x reflect.Value, see func(at unsafe.Pointer, what string)) {
	switch x.Kind() {
	case reflect.String:
		if x.Len() > 0 {
			see(unsafe.Pointer(unsafe.StringData(x.String())), x.String())
		}
	case reflect.Interface:
		pieces(x.Elem(), see)
	case reflect.Struct:
		for i := range x.NumField() {
			pieces(x.Field(i), see)
		}
	case reflect.Array:
		for i := range x.Len() {
			pieces(x.Index(i), see)
		}
	case reflect.Slice:
		for i := range x.Len() {
			pieces(x.Index(i), see)
		}
		if x.Cap() > 0 {
			see(x.UnsafePointer(), fmt.Sprint(x.Type()))
		}
	}
}

// spoil changes all of x.
func spoil(x reflect.Value) {
	switch x.Kind() {
	case reflect.String:
		x.SetString("spoilt")
	case reflect.Int:
		x.SetInt(-7)
	case reflect.Struct:
		for i := range x.NumField() {
			spoil(x.Field(i))
		}
	case reflect.Array, reflect.Slice:
		for i := range x.Len() {
			spoil(x.Index(i))
		}
	}
}

// roomy answers x, with spare room behind each list of it, in which something stands.
func roomy(x reflect.Value) reflect.Value {
	out := reflect.New(x.Type()).Elem()
	switch x.Kind() {
	case reflect.Struct:
		for i := range x.NumField() {
			out.Field(i).Set(roomy(x.Field(i)))
		}
	case reflect.Slice:
		out = reflect.MakeSlice(x.Type(), x.Len()+1, x.Len()+1)
		for i := range x.Len() {
			out.Index(i).Set(roomy(x.Index(i)))
		}
		spoil(out.Index(x.Len()))
		out = out.Slice(0, x.Len())
	default:
		out.Set(x)
	}
	return out
}

// unfolded answers x, with the spare room behind each list as part of it.
func unfolded(x reflect.Value) reflect.Value {
	out := reflect.New(x.Type()).Elem()
	switch x.Kind() {
	case reflect.Struct:
		for i := range x.NumField() {
			out.Field(i).Set(unfolded(x.Field(i)))
		}
	case reflect.Slice:
		out = reflect.MakeSlice(x.Type(), x.Cap(), x.Cap())
		for i := range x.Cap() {
			out.Index(i).Set(unfolded(x.Slice(0, x.Cap()).Index(i)))
		}
	default:
		out.Set(x)
	}
	return out
}
