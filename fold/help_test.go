package fold

import (
	"fmt"
	"math"
	"math/big"
	"reflect"
	"slices"
	"strconv"
	"strings"
	"testing"
	"unsafe"

	"cloister/api"
	"cloister/parse"
	"cloister/tree"
)

// read answers the program of a text.
func read(t *testing.T, s string) api.Program {
	t.Helper()
	p, f := parse.Program(s)
	if f.Code != api.OK {
		t.Fatalf("%q: %v", s, f)
	}
	return p
}

// lists: those of `i=1,2 j=3`, channel by channel of p.
func lists(t *testing.T, p api.Program, s string) [][]int {
	t.Helper()
	in := make([][]int, len(p.Chans))
	for _, one := range strings.Fields(s) {
		name, l, _ := strings.Cut(one, "=")
		i := slices.IndexFunc(p.Chans, func(c api.Chan) bool { return c.Name == name })
		for _, n := range strings.Split(l, ",") {
			k, err := strconv.Atoi(n)
			if err != nil || i < 0 {
				t.Fatalf("%q: %v", s, err)
			}
			in[i] = append(in[i], k)
		}
	}
	return in
}

// whole tells all of x, with the places, in which lists of nothing are alike.
func whole(x any) string { return fmt.Sprintf("%+v", x) }

// printed tells p as it is printed.
func printed(p api.Program) string {
	s, code := tree.Print(p)
	if code != api.OK {
		return fmt.Sprint("error ", code)
	}
	return s
}

// Expressions and statements.

func v(s string) api.Expr { return api.Expr{Kind: api.Var, Name: s} }

func num(n int) api.Expr { return api.Expr{Kind: api.Lit, Type: api.Int, N: n} }

func flag(n int) api.Expr { return api.Expr{Kind: api.Lit, Type: api.Bool, N: n} }

func op(s string, l ...api.Expr) api.Expr { return api.Expr{Kind: api.Op, Name: s, A: l} }

func call(s string, l ...api.Expr) api.Expr { return api.Expr{Kind: api.Call, Name: s, A: l} }

func release(l api.Label, x api.Expr) api.Expr {
	return api.Expr{Kind: api.Release, L: l, A: []api.Expr{x}}
}

func send(s string, x api.Expr) api.Stmt { return api.Stmt{Kind: api.Send, Name: s, E: x} }

func when(x api.Expr, a, b []api.Stmt) api.Stmt { return api.Stmt{Kind: api.If, E: x, A: a, B: b} }

// prog: a program of a channel o and a main with these statements.
func prog(l ...api.Stmt) api.Program {
	return api.Program{Chiefs: []string{"a", "b"}, Chans: []api.Chan{{Name: "o", Type: api.Int}}, Procs: []api.Proc{{Name: "main", Body: l}}}
}

// What the chapter says, by other means: from without, by what things are worth.

// signs are those that stand between two.
var signs = strings.Fields("|| && == != < <= > >= + - * / %")

// truths: what signs say of two numbers, by how they are compared.
func truths(x, y *big.Int) map[string]bool {
	return map[string]bool{
		"||": x.Sign() != 0 || y.Sign() != 0, "&&": x.Sign()*y.Sign() != 0,
		"==": x.Cmp(y) == 0, "!=": x.Cmp(y) != 0,
		"<": x.Cmp(y) < 0, "<=": x.Cmp(y) <= 0, ">": x.Cmp(y) > 0, ">=": x.Cmp(y) >= 0,
	}
}

// worth answers what x comes to ahead of a run, and its type: nil, if that isn't known, or can't be written.
func worth(x api.Expr) (*big.Int, int) {
	if x.Kind == api.Lit {
		return big.NewInt(int64(x.N)), x.Type
	}
	if x.Kind != api.Op {
		return nil, 0
	}
	left, t := big.NewInt(map[string]int64{"!": 1}[x.Name]), api.Int
	right, _ := worth(x.A[len(x.A)-1])
	sign := x.Name
	if len(x.A) == 2 {
		left, _ = worth(x.A[0])
	} else {
		sign = "-"
	}
	if left == nil || right == nil {
		return nil, 0
	}
	z := new(big.Int)
	is, ok := truths(left, right)[sign]
	switch {
	case ok:
		z.SetInt64(map[bool]int64{true: 1}[is])
	case sign == "+":
		z.Add(left, right)
	case sign == "-":
		z.Sub(left, right)
	case sign == "*":
		z.Mul(left, right)
	case right.Sign() == 0:
	case sign == "/":
		z.Quo(left, right)
	case sign == "%":
		z.Rem(left, right)
	}
	if ok || x.Name == "!" {
		t = api.Bool
	}
	if z.Sign() < 0 || z.Cmp(big.NewInt(999999999)) > 0 {
		return nil, 0
	}
	return z, t
}

// shortened answers what Expr should.
func shortened(x api.Expr) api.Expr {
	if n, t := worth(x); n != nil {
		return api.Expr{Kind: api.Lit, At: x.At, Type: t, N: int(n.Int64())}
	}
	x.A = slices.Clone(x.A)
	for i := range x.A {
		x.A[i] = shortened(x.A[i])
	}
	return x
}

// known: is E of s, an If or a While, worth n?
func known(s api.Stmt, n int64) bool {
	k, _ := worth(s.E)
	return (s.Kind == api.If || s.Kind == api.While) && k != nil && k.Cmp(big.NewInt(n)) == 0
}

// gone: is nothing left of s?
func gone(s api.Stmt) bool { return known(s, 0) && !slices.ContainsFunc(s.B, stays) }

func stays(s api.Stmt) bool { return !gone(s) }

// rest answers what should be left of l.
func rest(l []api.Stmt) []api.Stmt {
	var out []api.Stmt
	for _, s := range l {
		if gone(s) {
			continue
		}
		e := shortened(s.E)
		switch {
		case known(s, 0):
			e.N, s.A, s.B = 1, s.B, nil
		case known(s, 1):
			s.B = nil
		}
		s.E, s.A, s.B = e, rest(s.A), rest(s.B)
		out = append(out, s)
	}
	return out
}

// remains answers what Program should, of a program with no fault.
func remains(p api.Program) api.Program {
	p.Procs = slices.Clone(p.Procs)
	for i := range p.Procs {
		p.Procs[i].Body = rest(p.Procs[i].Body)
	}
	return p
}

// count answers how many statements p has.
func count(p api.Program) int {
	n := 0
	for _, q := range p.Procs {
		n += countWithin(q.Body)
	}
	return n
}

func countWithin(l []api.Stmt) int {
	n := len(l)
	for _, s := range l {
		n += countWithin(s.A) + countWithin(s.B)
	}
	return n
}

// thrower answers numbers that look as if by chance, the same ones each time.
type thrower struct{ state uint64 }

func dice(seed int) *thrower { return &thrower{uint64(seed)*2654435761 + 1} }

func (d *thrower) roll(n int) int {
	d.state = d.state*6364136223846793005 + 1442695040888963407
	return int((d.state >> 33) % uint64(n))
}

func (d *thrower) one(of ...string) string { return of[d.roll(len(of))] }

func (d *thrower) kind() int { return api.Int + d.roll(2) }

// lit makes one of this type.
func (d *thrower) lit(t int) api.Expr {
	if t == api.Bool {
		return flag(d.roll(2))
	}
	return num([]int{0, 1, 2, 3, 10, 31623, 999999998, 999999999}[d.roll(8)])
}

// formed makes an expression that is Formed, whatever the types within.
func (d *thrower) formed(deep int) api.Expr {
	x := d.lit(d.kind())
	if deep > 0 {
		switch d.roll(10) {
		case 0, 1:
			x = op(d.one("-", "!"), d.formed(deep-1))
		case 2, 3, 4, 5:
			x = op(d.one(signs...), d.formed(deep-1), d.formed(deep-1))
		case 6:
			x = call("f", slices.Repeat([]api.Expr{d.formed(deep - 1)}, d.roll(5))...)
		case 7:
			x = release(api.Label{{Owner: "a"}}, d.formed(deep-1))
		case 8:
			x = v("x")
		}
	}
	x.At = d.roll(9000) - 1000
	return x
}

// maker makes programs in which names and types are right. Each thing has a byte of its own.
type maker struct {
	*thrower
	tame   bool // labels are mostly such that the program may be taken by chapter 9
	shared bool // lists are laid elsewhere, too
	dry    int  // of how many expressions one is of Lits and signs alone
	long   int  // how many statements a list has, one less
	at     int
	p      api.Program
	vars   []api.Param
	lists  [][]api.Stmt
}

// here answers a byte; they neither rise nor begin at 0.
func (m *maker) here() int {
	m.at++
	return 5000 - 3*m.at
}

// set answers x at a byte of its own.
func (m *maker) set(x api.Expr) api.Expr {
	x.At = m.here()
	return x
}

func (m *maker) program() api.Program {
	m.p.Chiefs = []string{"c", "a", "b", "d"}[:1+m.roll(4)]
	for range m.roll(4) {
		m.p.Acts = append(m.p.Acts, [2]string{m.who(), m.who()})
	}
	for _, name := range []string{"i", "o", "j", "p", "k", "q"} {
		in := name < "l"
		c := api.Chan{At: m.here(), Name: name, In: in, Type: m.kind(), L: m.label()}
		if !in {
			c.L = m.goal()
		}
		m.p.Chans = append(m.p.Chans, c)
	}
	for _, name := range []string{"f", "main", "g", "h"} {
		m.p.Procs = append(m.p.Procs, m.head(name))
	}
	for i := range m.p.Procs {
		m.body(&m.p.Procs[i])
	}
	return m.p
}

// inputs makes lists for the channels of the program.
func (m *maker) inputs() [][]int {
	in := make([][]int, len(m.p.Chans))
	for i, c := range m.p.Chans {
		for range m.roll(8) {
			if c.In {
				in[i] = append(in[i], []int{0, 1, 2, 5, -1, -7, math.MaxInt, math.MinInt}[m.roll(8)])
			}
		}
	}
	return in
}

func (m *maker) who() string { return m.p.Chiefs[m.roll(len(m.p.Chiefs))] }

func (m *maker) label() api.Label {
	var l api.Label
	for range m.roll(4) {
		p := api.Policy{Owner: m.who()}
		for range m.roll(4) {
			p.Readers = append(p.Readers, m.who())
		}
		l = append(l, p)
	}
	return l
}

// goal makes a label to which something is to go: in a tame program mostly one to which all may.
func (m *maker) goal() api.Label {
	if !m.tame || m.roll(16) == 0 {
		return m.label()
	}
	var l api.Label
	for _, c := range m.p.Chiefs {
		l = append(l, api.Policy{Owner: c})
	}
	return l
}

func (m *maker) head(name string) api.Proc {
	p := api.Proc{At: m.here(), Name: name}
	if name != "main" {
		p.Begin = m.goal()
		for _, s := range []string{"x", "q", "y", "i"}[:m.roll(5)] {
			p.Params = append(p.Params, api.Param{Name: s, Type: m.kind(), L: m.goal()})
		}
		p.Result.Type = m.roll(3)
	}
	if p.Result.Type != api.None {
		p.Result.L = m.goal()
	}
	for range m.roll(3) {
		p.For = append(p.For, m.who())
	}
	return p
}

func (m *maker) body(p *api.Proc) {
	m.vars = slices.Clone(p.Params)
	p.Body = m.stmts(3)
	m.lists = append(m.lists, p.Body)
	if p.Result.Type != api.None {
		p.Body = append(p.Body, api.Stmt{Kind: api.Return, At: m.here(), E: m.expr(p.Result.Type, 2)})
	}
}

// block makes statements, or takes those that lie elsewhere.
func (m *maker) block(deep int) []api.Stmt {
	if m.shared && len(m.lists) > 0 && m.roll(3) == 0 {
		return m.lists[m.roll(len(m.lists))]
	}
	n := len(m.vars)
	l := m.stmts(deep)
	m.vars = m.vars[:n]
	m.lists = append(m.lists, l)
	return l
}

func (m *maker) stmts(deep int) []api.Stmt {
	var l []api.Stmt
	for range m.roll(m.long) {
		l = append(l, m.stmt(deep))
	}
	return l
}

func (m *maker) stmt(deep int) api.Stmt {
	s := api.Stmt{Kind: []int{api.Let, api.Set, api.Send, api.Take, api.Do, api.If, api.If, api.While}[m.roll(8)], At: m.here()}
	if deep == 0 && (s.Kind == api.If || s.Kind == api.While) {
		s.Kind = api.Send
	}
	switch s.Kind {
	case api.Set:
		if q, ok := m.variable(0); ok {
			s.Name, s.E = q.Name, m.expr(q.Type, 2)
			return s
		}
	case api.Send:
		if c, ok := m.channel(false, 0); ok {
			s.Name, s.E = c.Name, m.expr(c.Type, 2)
			return s
		}
	case api.Take:
		if q, ok := m.variable(0); ok {
			if c, ok := m.channel(true, q.Type); ok {
				s.Name, s.Of, s.E.At = q.Name, c.Name, m.here()
				return s
			}
		}
	case api.Do:
		s.E = m.call(&m.p.Procs[m.roll(len(m.p.Procs))], 2)
		return s
	case api.If, api.While:
		s.E, s.A = m.expr(api.Bool, 2), m.block(deep-1)
		if s.Kind == api.If {
			s.B = m.block(deep - 1)
		}
		return s
	}
	return m.let(s)
}

// let makes a variable that isn't there, or sets one.
func (m *maker) let(s api.Stmt) api.Stmt {
	free := slices.DeleteFunc([]string{"x", "y", "z", "q", "main", "i", "s", "t", "u"}, func(name string) bool {
		return slices.ContainsFunc(m.vars, func(q api.Param) bool { return q.Name == name })
	})
	if len(free) == 0 {
		q, _ := m.variable(0)
		s.Kind, s.Name, s.E = api.Set, q.Name, m.expr(q.Type, 2)
		return s
	}
	t := m.kind()
	s.Kind, s.Labelled = api.Let, m.roll(4) == 0
	if s.Labelled {
		s.L = m.goal()
	}
	s.Name, s.E = m.one(free...), m.expr(t, 2)
	m.vars = append(m.vars, api.Param{Name: s.Name, Type: t})
	return s
}

// variable answers one of this type, 0: of any.
func (m *maker) variable(t int) (api.Param, bool) {
	l := slices.DeleteFunc(slices.Clone(m.vars), func(q api.Param) bool { return t != 0 && q.Type != t })
	if len(l) == 0 {
		return api.Param{}, false
	}
	return l[m.roll(len(l))], true
}

// channel answers one that comes in, or goes out, of this type, 0: of any.
func (m *maker) channel(in bool, t int) (api.Chan, bool) {
	l := slices.DeleteFunc(slices.Clone(m.p.Chans), func(c api.Chan) bool { return c.In != in || t != 0 && c.Type != t })
	if len(l) == 0 {
		return api.Chan{}, false
	}
	return l[m.roll(len(l))], true
}

func (m *maker) call(p *api.Proc, deep int) api.Expr {
	var l []api.Expr
	for _, q := range p.Params {
		l = append(l, m.expr(q.Type, deep-1))
	}
	return m.set(call(p.Name, l...))
}

// expr makes an expression of the type t.
func (m *maker) expr(t, deep int) api.Expr {
	if m.roll(m.dry) == 0 {
		return m.bare(t, deep)
	}
	kinds := 8
	if deep <= 0 {
		kinds = 4
	}
	switch m.roll(kinds) {
	case 1, 2, 3:
		if q, ok := m.variable(t); ok {
			return m.set(v(q.Name))
		}
	case 4, 5:
		return m.op(t, func(t int) api.Expr { return m.expr(t, deep-1) })
	case 6:
		return m.set(release(m.goal(), m.expr(t, deep-1)))
	case 7:
		if p := &m.p.Procs[m.roll(len(m.p.Procs))]; p.Result.Type == t {
			return m.call(p, deep)
		}
	}
	return m.set(m.lit(t))
}

// bare makes an expression of Lits and signs alone.
func (m *maker) bare(t, deep int) api.Expr {
	if deep <= 0 || m.roll(3) == 0 {
		return m.set(m.lit(t))
	}
	return m.op(t, func(t int) api.Expr { return m.bare(t, deep-1) })
}

// op makes a sign, with what it asks for.
func (m *maker) op(t int, within func(t int) api.Expr) api.Expr {
	if t == api.Int {
		if m.roll(6) == 0 {
			return m.set(op("-", within(t)))
		}
		return m.set(op(m.one("+", "-", "*", "/", "%"), within(t), within(t)))
	}
	switch s := m.one("!", "&&", "||", "==", "!=", "<", "<=", ">", ">="); s {
	case "!":
		return m.set(op(s, within(t)))
	case "&&", "||":
		return m.set(op(s, within(t), within(t)))
	case "==", "!=":
		k := m.kind()
		return m.set(op(s, within(k), within(k)))
	default:
		return m.set(op(s, within(api.Int), within(api.Int)))
	}
}

// Programs of no form.

func (d *thrower) anyName() string { return d.one("", "x", "main", "if", "\xff", "a b", "+") }

func (d *thrower) anyLabel() api.Label {
	var l api.Label
	for range d.roll(6) - 3 {
		l = append(l, api.Policy{Owner: d.anyName(), Readers: []string{d.anyName()}})
	}
	return l
}

func (d *thrower) anyExprs(deep int) []api.Expr {
	var l []api.Expr
	for range d.roll(3) {
		x := api.Expr{Kind: d.roll(8) - 1, At: d.roll(9) - 4, N: d.roll(9) - 4, Type: d.roll(4), Name: d.anyName(), L: d.anyLabel()}
		if d.roll(2) == 0 {
			x = d.lit(d.kind())
		}
		if deep > 0 && d.roll(2) == 0 {
			x.A = d.anyExprs(deep - 1)
		}
		l = append(l, x)
	}
	return l
}

func (d *thrower) anyStmts(deep int) []api.Stmt {
	var l []api.Stmt
	for range d.roll(4) {
		s := api.Stmt{Kind: d.roll(11) - 1, At: d.roll(9) - 4, Name: d.anyName(), Of: d.anyName(), Labelled: d.roll(3) == 0, L: d.anyLabel()}
		for _, x := range d.anyExprs(2) {
			s.E = x
		}
		if deep > 0 {
			s.A, s.B = d.anyStmts(deep-1), d.anyStmts(deep-1)
		}
		l = append(l, s)
	}
	return l
}

// anything makes a program of any data.
func (d *thrower) anything() api.Program {
	var p api.Program
	for range d.roll(3) {
		p.Chiefs = append(p.Chiefs, d.anyName())
		p.Acts = append(p.Acts, [2]string{d.anyName(), d.anyName()})
		p.Chans = append(p.Chans, api.Chan{Name: d.anyName(), In: d.roll(2) == 0, Type: d.roll(4) - 1, L: d.anyLabel()})
	}
	for range d.roll(3) {
		q := api.Proc{At: d.roll(9) - 4, Name: d.one("main", "x", ""), Body: d.anyStmts(d.roll(3))}
		for range d.roll(2) {
			q.Params = append(q.Params, api.Param{Name: d.anyName(), Type: d.roll(4) - 1})
		}
		p.Procs = append(p.Procs, q)
	}
	return p
}

// What lies where.

// apart: no list of what is answered is one of what was handed in, or another one of the answer.
func apart(t *testing.T, what string, given, answered any) {
	t.Helper()
	ours, seen := map[unsafe.Pointer]string{}, map[unsafe.Pointer]string{}
	pieces(reflect.ValueOf(given), func(at unsafe.Pointer, what string) { ours[at] = what })
	pieces(reflect.ValueOf(answered), func(at unsafe.Pointer, piece string) {
		if old := ours[at]; old != "" {
			t.Errorf("%s: %s is what was handed in: %s", what, piece, old)
		}
		if old := seen[at]; old != "" {
			t.Errorf("%s: %s is that of another one: %s", what, piece, old)
		}
		seen[at] = piece
	})
}

// pieces shows where the lists and names of x lie.
func pieces(x reflect.Value, see func(at unsafe.Pointer, what string)) {
	switch x.Kind() {
	case reflect.String:
		if x.Len() > 0 {
			see(unsafe.Pointer(unsafe.StringData(x.String())), x.String())
		}
	case reflect.Struct:
		for i := range x.NumField() {
			pieces(x.Field(i), see)
		}
	case reflect.Array:
		for i := range x.Len() {
			pieces(x.Index(i), see)
		}
	case reflect.Slice:
		for i := range x.Len() {
			pieces(x.Index(i), see)
		}
		if x.Cap() > 0 {
			see(x.UnsafePointer(), fmt.Sprint(x.Type()))
		}
	}
}

// spoil changes all of x.
func spoil(x reflect.Value) {
	switch x.Kind() {
	case reflect.String:
		x.SetString("spoilt")
	case reflect.Int:
		x.SetInt(-7)
	case reflect.Struct:
		for i := range x.NumField() {
			spoil(x.Field(i))
		}
	case reflect.Array, reflect.Slice:
		for i := range x.Len() {
			spoil(x.Index(i))
		}
	}
}

// roomy answers x, with spare room behind each list of it, in which something stands.
func roomy(x reflect.Value) reflect.Value {
	out := reflect.New(x.Type()).Elem()
	switch x.Kind() {
	case reflect.Struct:
		for i := range x.NumField() {
			out.Field(i).Set(roomy(x.Field(i)))
		}
	case reflect.Slice:
		out = reflect.MakeSlice(x.Type(), x.Len()+1, x.Len()+1)
		for i := range x.Len() {
			out.Index(i).Set(roomy(x.Index(i)))
		}
		spoil(out.Index(x.Len()))
		out = out.Slice(0, x.Len())
	default:
		out.Set(x)
	}
	return out
}

// unfolded answers x, with the spare room behind each list as part of it.
func unfolded(x reflect.Value) reflect.Value {
	out := reflect.New(x.Type()).Elem()
	switch x.Kind() {
	case reflect.Struct:
		for i := range x.NumField() {
			out.Field(i).Set(unfolded(x.Field(i)))
		}
	case reflect.Slice:
		out = reflect.MakeSlice(x.Type(), x.Cap(), x.Cap())
		for i := range x.Cap() {
			out.Index(i).Set(unfolded(x.Slice(0, x.Cap()).Index(i)))
		}
	default:
		out.Set(x)
	}
	return out
}
