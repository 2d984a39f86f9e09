package tree

import (
	"reflect"
	"strconv"
	"strings"

	"cloister/api"
	"cloister/scan"
)

// Expressions.

func v(s string) api.Expr { return api.Expr{Kind: api.Var, Name: s} }

func num(n int) api.Expr { return api.Expr{Kind: api.Lit, Type: api.Int, N: n} }

func bit(n int) api.Expr { return api.Expr{Kind: api.Lit, Type: api.Bool, N: n} }

func op(s string, l ...api.Expr) api.Expr { return api.Expr{Kind: api.Op, Name: s, A: l} }

func call(s string, l ...api.Expr) api.Expr { return api.Expr{Kind: api.Call, Name: s, A: l} }

func release(x api.Expr, l api.Label) api.Expr {
	return api.Expr{Kind: api.Release, L: l, A: []api.Expr{x}}
}

// chain: so many, each within the one ahead.
func chain(n int) api.Expr {
	x := v("a")
	for range n - 1 {
		x = op("-", x)
	}
	return x
}

// calls: so many, each within the one ahead, behind others.
func calls(n int) api.Expr {
	x := call("f")
	for range n - 1 {
		x = call("f", num(1), x)
	}
	return x
}

// ring: so many, each within the one ahead, the first within the last.
func ring(n int) api.Expr {
	l := make([][]api.Expr, n)
	for i := range l {
		l[i] = []api.Expr{op("-")}
	}
	for i := range l {
		l[i][0].A = l[(i+1)%n]
	}
	return l[0][0]
}

// shared: a tree of so many levels, with so many in each, all of a level the same.
func shared(width, levels int) api.Expr {
	x := api.Expr{}
	for range levels - 1 {
		x = api.Expr{A: fill(x, width)}
	}
	return x
}

func sharedCalls(width, levels int) api.Expr {
	x := call("f")
	for range levels - 1 {
		x = call("f", fill(x, width)...)
	}
	return x
}

// lab of "a:b,c;b:".
func lab(s string) api.Label {
	var l api.Label
	for _, p := range strings.Split(s, ";") {
		owner, readers, _ := strings.Cut(p, ":")
		if readers == "" {
			l = append(l, api.Policy{Owner: owner})
			continue
		}
		l = append(l, api.Policy{Owner: owner, Readers: strings.Split(readers, ",")})
	}
	return l
}

func make2(n int) api.Label { return fill(api.Policy{Owner: "a", Readers: []string{"b"}}, n) }

func acts(n int) [][2]string { return fill([2]string{"a", "b"}, n) }

func fill[T any](x T, n int) []T {
	l := make([]T, n)
	for i := range l {
		l[i] = x
	}
	return l
}

// Statements and programs.

func send(x api.Expr) api.Stmt { return api.Stmt{Kind: api.Send, Name: "o", E: x} }

func prog(l ...api.Stmt) api.Program {
	return api.Program{Procs: []api.Proc{{Name: "main", Body: l}}}
}

func stmtRing(n int) api.Stmt {
	l := make([][]api.Stmt, n)
	for i := range l {
		l[i] = []api.Stmt{{Kind: api.While, E: v("x")}}
	}
	for i := range l {
		l[i][0].A = l[(i+1)%n]
	}
	return l[0][0]
}

// wholeExpr, wholeStmt: something in each field.
func wholeExpr() api.Expr {
	return api.Expr{Kind: 1, At: 2, N: 3, Type: 4, Name: "x", L: lab("a:b,c;b:"), A: []api.Expr{v("y"), release(num(1), lab("c:a")), op("+", v("a"), v("b"))}}
}

func wholeStmt() api.Stmt {
	return api.Stmt{Kind: 1, At: 2, Name: "x", Of: "y", Labelled: true, L: lab("a:b,c;b:"), E: wholeExpr(), A: []api.Stmt{send(v("a")), {Kind: api.If, E: v("b"), A: []api.Stmt{send(v("c"))}}}, B: []api.Stmt{send(wholeExpr())}}
}

// wholeProgram is what wholeText tells.
func wholeProgram() api.Program {
	x, y, z := v("x"), v("y"), v("z")
	return api.Program{
		Chiefs: []string{"a", "b"},
		Acts:   [][2]string{{"a", "b"}, {"b", "a"}},
		Chans:  []api.Chan{{At: 1, Name: "i", In: true, Type: api.Int, L: lab("a:b,c;b:")}, {At: 2, Name: "o", Type: api.Bool}},
		Procs: []api.Proc{
			{At: 3, Name: "main", Begin: lab("a:"), Body: []api.Stmt{
				{Kind: api.Let, At: 4, Name: "y", E: num(5)},
				{Kind: api.Let, Name: "z", Labelled: true, L: lab("b:a"), E: op("-", x)},
				{Kind: api.Set, Name: "y", E: call("f", y, op("+", z, num(1)))},
				{Kind: api.If, E: op("&&", op("<", y, z), op("!", x)), A: []api.Stmt{
					send(y),
					{Kind: api.While, E: bit(1), A: []api.Stmt{{Kind: api.Take, Name: "y", Of: "i"}}},
				}, B: []api.Stmt{
					{Kind: api.Do, E: call("g")},
					{Kind: api.If, E: x, B: []api.Stmt{{Kind: api.Return, E: release(x, lab("a:b"))}}},
				}},
			}},
			{Name: "f", Params: []api.Param{{Name: "p", Type: api.Int, L: lab("a:")}, {Name: "q", Type: api.Bool}}, Result: api.Param{Type: api.Bool, L: lab("b:")}, For: []string{"b", "a"}, Body: []api.Stmt{
				{Kind: api.While, E: op("==", v("p"), num(0)), A: []api.Stmt{{Kind: api.Set, Name: "p", E: op("-", v("p"), num(1))}}},
				{Kind: api.Return, E: v("q")},
			}},
		},
	}
}

// eachChange changes x in each way, one after the other: each number, text, bool of it; each list by one less and one more. It is changed back each time.
func eachChange(x reflect.Value, path string, see func(path string)) {
	was := reflect.New(x.Type()).Elem()
	was.Set(x)
	try := func(change reflect.Value) {
		x.Set(change)
		see(path)
		x.Set(was)
	}
	switch x.Kind() {
	case reflect.Int:
		try(reflect.ValueOf(int(x.Int()) + 1))
	case reflect.String:
		try(reflect.ValueOf(x.String() + "x"))
	case reflect.Bool:
		try(reflect.ValueOf(!x.Bool()))
	case reflect.Struct:
		for i := range x.NumField() {
			eachChange(x.Field(i), path+"."+x.Type().Field(i).Name, see)
		}
	case reflect.Array, reflect.Slice:
		for i := range x.Len() {
			eachChange(x.Index(i), path+"["+strconv.Itoa(i)+"]", see)
		}
		if x.Kind() == reflect.Slice {
			// A list of its own, so that this isn't told by where it lies.
			more := reflect.MakeSlice(x.Type(), x.Len()+1, x.Len()+1)
			reflect.Copy(more, x)
			try(more)
			if x.Len() > 0 {
				try(more.Slice(0, x.Len()-1))
				try(more.Slice(1, x.Len()))
			}
		}
	}
}

// roomy answers p with spare room behind its lists, in which something stands.
func roomy(p api.Program) api.Program {
	p.Chiefs = append(p.Chiefs, "spare")[:len(p.Chiefs)]
	p.Acts = append(p.Acts, [2]string{"spare", "room"})[:len(p.Acts)]
	p.Chans = append(p.Chans, api.Chan{Name: "spare"})[:len(p.Chans)]
	p.Procs = append(p.Procs, api.Proc{Name: "spare"})[:len(p.Procs)]
	for i := range p.Procs {
		q := &p.Procs[i]
		q.Params = append(q.Params, api.Param{Name: "spare"})[:len(q.Params)]
		q.For = append(q.For, "spare")[:len(q.For)]
		q.Body = append(q.Body, api.Stmt{Name: "spare"})[:len(q.Body)]
		for j := range q.Body {
			x := &q.Body[j].E
			x.A = append(x.A, v("spare"))[:len(x.A)]
			q.Body[j].L = append(q.Body[j].L, api.Policy{Owner: "spare"})[:len(q.Body[j].L)]
		}
	}
	return p
}

// whole answers p with its spare room as part of it.
func whole(p api.Program) api.Program {
	p.Chiefs = p.Chiefs[:cap(p.Chiefs)]
	p.Acts = p.Acts[:cap(p.Acts)]
	p.Chans = p.Chans[:cap(p.Chans)]
	p.Procs = append([]api.Proc(nil), p.Procs[:cap(p.Procs)]...)
	for i := range p.Procs {
		q := &p.Procs[i]
		q.Params = q.Params[:cap(q.Params)]
		q.For = q.For[:cap(q.For)]
		q.Body = append([]api.Stmt(nil), q.Body[:cap(q.Body)]...)
		for j := range q.Body {
			x := &q.Body[j].E
			x.A = x.A[:cap(x.A)]
			q.Body[j].L = q.Body[j].L[:cap(q.Body[j].L)]
		}
	}
	return p
}

// Others of no particular kind.

// thrower answers numbers that look as if by chance, the same ones each time.
type thrower struct{ state uint64 }

func dice(seed uint64) *thrower { return &thrower{seed*2654435761 + 1} }

func (d *thrower) roll(n int) int {
	d.state = d.state*6364136223846793005 + 1442695040888963407
	return int((d.state >> 33) % uint64(n))
}

func (d *thrower) name() string { return string(rune('a' + d.roll(5))) }

func (d *thrower) label() api.Label {
	var l api.Label
	for range d.roll(3) {
		p := api.Policy{Owner: d.name()}
		for range d.roll(3) {
			p.Readers = append(p.Readers, d.name())
		}
		l = append(l, p)
	}
	return l
}

func (d *thrower) expr(deep int) api.Expr {
	signs := strings.Fields("|| && == != < <= > >= + - * / %")
	if deep == 1 {
		return []api.Expr{num(d.roll(1000)), bit(d.roll(2)), v(d.name()), call("f")}[d.roll(4)]
	}
	switch d.roll(8) {
	case 0:
		return op([]string{"-", "!"}[d.roll(2)], d.expr(deep-1))
	case 1:
		x := call(d.name())
		for range d.roll(api.MaxParams + 1) {
			x.A = append(x.A, d.expr(1+d.roll(deep-1)))
		}
		return x
	case 2:
		return release(d.expr(deep-1), d.label())
	}
	return op(signs[d.roll(len(signs))], d.expr(1+d.roll(deep-1)), d.expr(1+d.roll(deep-1)))
}

func (d *thrower) block(deep int) []api.Stmt {
	var l []api.Stmt
	for range d.roll(4) {
		s := api.Stmt{Kind: 1 + d.roll(8), At: d.roll(9), E: d.expr(1 + d.roll(3))}
		switch s.Kind {
		case api.Let:
			s.Name, s.Labelled = d.name(), d.roll(2) == 0
			if s.Labelled {
				s.L = d.label()
			}
		case api.Set, api.Send:
			s.Name = d.name()
		case api.Take:
			s.Name, s.Of, s.E = d.name(), d.name(), api.Expr{}
		case api.Do:
			s.E = call(d.name(), s.E)
		case api.If, api.While:
			if deep == 1 {
				continue
			}
			s.A = d.block(deep - 1)
			if s.Kind == api.If {
				s.B = d.block(deep - 1)
			}
		}
		l = append(l, s)
	}
	return l
}

func (d *thrower) program() api.Program {
	var p api.Program
	for range d.roll(4) {
		p.Chiefs = append(p.Chiefs, d.name())
		p.Acts = append(p.Acts, [2]string{d.name(), d.name()})
	}
	for range d.roll(4) {
		p.Chans = append(p.Chans, api.Chan{Name: d.name(), In: d.roll(2) == 0, Type: 1 + d.roll(2), L: d.label()})
	}
	for range d.roll(3) {
		q := api.Proc{Name: d.name(), Result: api.Param{Type: d.roll(3)}, Begin: d.label(), Body: d.block(1 + d.roll(4))}
		if q.Result.Type != api.None {
			q.Result.L = d.label()
		}
		for range d.roll(api.MaxParams + 1) {
			q.Params = append(q.Params, api.Param{Name: d.name(), Type: 1 + d.roll(2), L: d.label()})
		}
		for range d.roll(3) {
			q.For = append(q.For, d.name())
		}
		p.Procs = append(p.Procs, q)
	}
	return p
}

// Reading what is printed.

// read answers the expression that s tells.
func read(s string) (api.Expr, bool) {
	l, f := scan.Scan(s)
	r := tokens{l}
	x := r.expr(1)
	return x, f.Code == api.OK && len(r.l) == 0
}

// tokens are taken from the left; what is wrong is left over at the end.
type tokens struct{ l []api.Token }

func (r *tokens) next() string {
	if len(r.l) == 0 {
		return ""
	}
	return r.l[0].Text
}

func (r *tokens) take() string {
	s := r.next()
	if s != "" {
		r.l = r.l[1:]
	}
	return s
}

func (r *tokens) expr(level int) api.Expr {
	if level == 6 {
		return r.primary()
	}
	signs := " " + []string{"", "||", "&&", "== != < <= > >=", "+ -", "* / %"}[level] + " "
	x := r.expr(level + 1)
	for r.next() != "" && strings.Contains(signs, " "+r.next()+" ") {
		sign := r.take()
		x = op(sign, x, r.expr(level+1))
	}
	return x
}

func (r *tokens) primary() api.Expr {
	s := r.take()
	switch {
	case s == "true" || s == "false":
		return bit(strings.Index("false true", s) / 6)
	case s == "-" || s == "!":
		return op(s, r.primary())
	case s == "(":
		x := r.expr(1)
		r.take()
		return x
	case s == "release":
		r.take()
		x := r.expr(1)
		r.take()
		text := ""
		for r.next() != ")" && r.next() != "" {
			text += r.take()
		}
		r.take()
		return release(x, labelOf(text))
	case r.next() == "(":
		r.take()
		x := call(s)
		for r.next() != ")" && r.next() != "" {
			x.A = append(x.A, r.expr(1))
			if r.next() == "," {
				r.take()
			}
		}
		r.take()
		return x
	}
	if n, err := strconv.Atoi(s); err == nil {
		return num(n)
	}
	return v(s)
}

// labelOf "{a:b}".
func labelOf(s string) api.Label {
	if s == "{}" {
		return nil
	}
	return lab(strings.Trim(s, "{}"))
}

// without answers s without the pair of brackets that begins at i, if there begins one that isn't a call's or a release's.
func without(s string, i int) (string, bool) {
	if s[i] != '(' || i > 0 && (s[i-1] == '_' || 'a' <= s[i-1] && s[i-1] <= 'z') {
		return "", false
	}
	open := 0
	for j := i; j < len(s); j++ {
		switch s[j] {
		case '(':
			open++
		case ')':
			open--
		}
		if open == 0 {
			return s[:i] + s[i+1:j] + s[j+1:], true
		}
	}
	return "", false
}

// reader reads a program line by line.
type reader struct {
	lines []string
	wrong string
}

// line answers the next line, if it stands behind so many tabs.
func (r *reader) line(deep int) string {
	s := r.lines[0]
	rest, ok := strings.CutPrefix(s, strings.Repeat("\t", deep))
	if !ok || strings.HasPrefix(rest, "\t") || !strings.HasSuffix(s, "\n") || r.wrong != "" {
		r.wrong += "line " + s
		return "}"
	}
	r.lines = r.lines[1:]
	return strings.TrimSuffix(rest, "\n")
}

func (r *reader) program() api.Program {
	var p api.Program
	for r.lines[0] != "" && r.wrong == "" {
		s := r.line(0)
		word, rest, _ := strings.Cut(strings.TrimSuffix(s, ";"), " ")
		switch word {
		case "chief":
			p.Chiefs = append(p.Chiefs, rest)
		case "acts":
			a, b, _ := strings.Cut(rest, " ")
			p.Acts = append(p.Acts, [2]string{a, b})
		case "in", "out":
			q := param(rest)
			p.Chans = append(p.Chans, api.Chan{Name: q.Name, In: word == "in", Type: q.Type, L: q.L})
		case "proc":
			p.Procs = append(p.Procs, r.proc(rest))
		default:
			r.wrong += "what is " + s
		}
	}
	return p
}

// param of "a: int {a:b}".
func param(s string) api.Param {
	name, rest, _ := strings.Cut(s, ": ")
	kind, l, _ := strings.Cut(rest, " ")
	return api.Param{Name: name, Type: strings.Index(" int bool", kind)/4 + 1, L: labelOf(l)}
}

func (r *reader) proc(s string) api.Proc {
	s = strings.TrimSuffix(s, " {")
	name, rest, _ := strings.Cut(s, "(")
	params, rest, _ := strings.Cut(rest, ")")
	p := api.Proc{Name: name}
	if params != "" {
		for _, s := range strings.Split(params, ", ") {
			p.Params = append(p.Params, param(s))
		}
	}
	rest, by, ok := strings.Cut(rest, " for ")
	if ok {
		p.For = strings.Split(by, ", ")
	}
	rest, begin, ok := strings.Cut(rest, " begin ")
	if ok {
		p.Begin = labelOf(begin)
	}
	if rest != "" {
		p.Result = param(rest)
	}
	p.Body, _ = r.block(1)
	return p
}

// block answers the statements behind so many tabs, and the line that ends them.
func (r *reader) block(deep int) ([]api.Stmt, string) {
	var l []api.Stmt
	for r.wrong == "" {
		if !strings.HasPrefix(r.lines[0], strings.Repeat("\t", deep)) {
			return l, r.line(deep - 1)
		}
		l = append(l, r.stmt(deep))
	}
	return nil, ""
}

func (r *reader) stmt(deep int) api.Stmt {
	s := r.line(deep)
	word, rest, _ := strings.Cut(strings.TrimSuffix(s, ";"), " ")
	name, behind, _ := strings.Cut(rest, " ")
	ok := true
	var out api.Stmt
	switch word {
	case "var":
		out = api.Stmt{Kind: api.Let, Name: name}
		l, e, _ := strings.Cut(behind, "= ")
		if l != "" {
			out.Labelled, out.L = true, labelOf(strings.TrimSpace(l))
		}
		out.E, ok = read(e)
	case "if", "while":
		out.Kind = map[string]int{"if": api.If, "while": api.While}[word]
		out.E, ok = read(strings.TrimSuffix(rest, " {"))
		end := ""
		out.A, end = r.block(deep + 1)
		if end == "} else {" {
			out.B, end = r.block(deep + 1)
		}
		ok = ok && end == "}"
	case "send":
		out = api.Stmt{Kind: api.Send, Name: name}
		out.E, ok = read(behind)
	case "take":
		out = api.Stmt{Kind: api.Take, Name: name, Of: behind}
	case "do", "return":
		out.Kind = map[string]int{"do": api.Do, "return": api.Return}[word]
		out.E, ok = read(rest)
	default:
		out = api.Stmt{Kind: api.Set, Name: word}
		ok = name == "="
		if ok {
			out.E, ok = read(behind)
		}
	}
	if !ok {
		r.wrong += "what is " + s
	}
	return out
}
