package parse

import (
	"strconv"
	"strings"

	"cloister/api"
	"cloister/scan"
)

// Expressions that stand at a byte.

func v(at int, s string) api.Expr { return api.Expr{Kind: api.Var, At: at, Name: s} }

func num(at, n int) api.Expr { return api.Expr{Kind: api.Lit, At: at, Type: api.Int, N: n} }

func bit(at, n int) api.Expr { return api.Expr{Kind: api.Lit, At: at, Type: api.Bool, N: n} }

func op(at int, s string, l ...api.Expr) api.Expr {
	return api.Expr{Kind: api.Op, At: at, Name: s, A: l}
}

func call(at int, s string, l ...api.Expr) api.Expr {
	return api.Expr{Kind: api.Call, At: at, Name: s, A: l}
}

func release(at int, x api.Expr, l api.Label) api.Expr {
	return api.Expr{Kind: api.Release, At: at, L: l, A: []api.Expr{x}}
}

// lab of "a:b,c;b:".
func lab(s string) api.Label {
	var l api.Label
	for _, p := range strings.Split(s, ";") {
		owner, readers, _ := strings.Cut(p, ":")
		if readers == "" {
			l = append(l, api.Policy{Owner: owner})
			continue
		}
		l = append(l, api.Policy{Owner: owner, Readers: strings.Split(readers, ",")})
	}
	return l
}

// times: s so many times, with what is between.
func times(s, between string, n int) string {
	if n == 0 {
		return ""
	}
	return strings.Repeat(s+between, n-1) + s
}

// thrower answers numbers that look as if by chance, the same ones each time.
type thrower struct{ state uint64 }

func dice(seed int) *thrower { return &thrower{uint64(seed)*2654435761 + 1} }

func (d *thrower) roll(n int) int {
	d.state = d.state*6364136223846793005 + 1442695040888963407
	return int((d.state >> 33) % uint64(n))
}

func (d *thrower) one(of ...string) string { return of[d.roll(len(of))] }

func (d *thrower) name() string { return d.one("a", "b", "_", "x1", "Chief", "twelve_bytes") }

// maker writes a text, and answers what it is, with the bytes where it stands.
type maker struct {
	*thrower
	text strings.Builder
	last string
}

// put writes a token behind some gap, and answers its byte.
func (m *maker) put(token string) int {
	alone := "(){},;:"
	gaps := []string{" ", "\t", "\n", "  ", "# proc ( {\n", " #\n\t"}
	if m.last == "" || strings.Contains(alone, m.last) || strings.Contains(alone, token) {
		gaps = append(gaps, "", "", "", "", "", "")
	}
	m.text.WriteString(m.one(gaps...))
	at := m.text.Len()
	m.text.WriteString(token)
	m.last = token
	return at
}

func (m *maker) putName() string {
	s := m.name()
	m.put(s)
	return s
}

// several: from none to most of what is written, with the sign between each two.
func (m *maker) several(from, most int, between string, write func()) {
	for i := range from + m.roll(most-from+1) {
		if i > 0 {
			m.put(between)
		}
		write()
	}
}

func (m *maker) label() api.Label {
	var l api.Label
	m.put("{")
	m.several(0, 2, ";", func() {
		p := api.Policy{Owner: m.putName()}
		m.put(":")
		m.several(0, m.roll(api.MaxChiefs+1), ",", func() { p.Readers = append(p.Readers, m.putName()) })
		l = append(l, p)
	})
	m.put("}")
	return l
}

// expr writes an expression of the Levels from this one on, and no more of them within each other than deep.
func (m *maker) expr(level, deep int) api.Expr {
	if level == 6 {
		return m.primary(deep)
	}
	signs := []string{"||", "&&", "== != < <= > >=", "+ -", "* / %"}[level-1]
	x := m.expr(level+1, deep)
	for m.roll(6) == 0 {
		sign := m.one(strings.Fields(signs)...)
		at := m.put(sign)
		x = op(at, sign, x, m.expr(level+1, deep))
	}
	return x
}

func (m *maker) primary(deep int) api.Expr {
	kinds := 4
	if deep > 1 {
		kinds = 9
	}
	switch m.roll(kinds) {
	case 0:
		return m.number()
	case 1:
		s := m.one("false", "true")
		return bit(m.put(s), strings.Index("false true", s)/6)
	case 2:
		s := m.name()
		return v(m.put(s), s)
	case 3, 4:
		return m.call(deep)
	case 5:
		sign := m.one("-", "!")
		at := m.put(sign)
		return op(at, sign, m.primary(deep-1))
	case 6:
		at := m.put("release")
		m.put("(")
		x := m.expr(1, deep-1)
		m.put("to")
		l := m.label()
		m.put(")")
		return release(at, x, l)
	}
	m.put("(")
	x := m.expr(1, deep-1)
	m.put(")")
	return x
}

func (m *maker) number() api.Expr {
	n := []int{0, 7, 10, 999999999}[m.roll(4)]
	return num(m.put(strconv.Itoa(n)), n)
}

func (m *maker) call(deep int) api.Expr {
	s := m.name()
	x := call(m.put(s), s)
	m.put("(")
	most := api.MaxParams
	if deep <= 1 {
		most = 0
	}
	m.several(0, most, ",", func() { x.A = append(x.A, m.expr(1, deep-1)) })
	m.put(")")
	return x
}

func (m *maker) block(deep int) []api.Stmt {
	var l []api.Stmt
	m.put("{")
	m.several(0, 4, "", func() { l = append(l, m.stmt(deep)) })
	m.put("}")
	return l
}

func (m *maker) stmt(deep int) api.Stmt {
	kinds := 6
	if deep > 1 {
		kinds = 8
	}
	s := api.Stmt{Kind: []int{api.Let, api.Set, api.Send, api.Take, api.Do, api.Return, api.If, api.While}[m.roll(kinds)]}
	if s.Kind == api.Set {
		s.Name = m.name()
		s.At = m.put(s.Name)
		m.put("=")
		s.E = m.expr(1, 3)
		m.put(";")
		return s
	}
	s.At = m.put([]string{"", "var", "", "if", "while", "send", "take", "do", "return"}[s.Kind])
	switch s.Kind {
	case api.Let, api.Send, api.Take:
		s.Name = m.putName()
	case api.Do:
		s.E = m.call(3)
	}
	switch s.Kind {
	case api.Let:
		s.Labelled = m.roll(2) == 0
		if s.Labelled {
			s.L = m.label()
		}
		m.put("=")
	case api.Take:
		s.Of = m.putName()
	}
	if s.Kind != api.Take && s.Kind != api.Do {
		s.E = m.expr(1, 3)
	}
	if s.Kind != api.If && s.Kind != api.While {
		m.put(";")
		return s
	}
	s.A = m.block(deep - 1)
	if s.Kind == api.If && m.roll(2) == 0 {
		m.put("else")
		s.B = m.block(deep - 1)
	}
	return s
}

// typed writes what stands behind a name.
func (m *maker) typed(name string) api.Param {
	m.put(":")
	s := m.one("int", "bool")
	m.put(s)
	return api.Param{Name: name, Type: 1 + strings.Index("int bool", s)/4, L: m.label()}
}

func (m *maker) proc() api.Proc {
	p := api.Proc{At: m.put("proc"), Name: m.putName()}
	m.put("(")
	m.several(0, api.MaxParams, ",", func() { p.Params = append(p.Params, m.typed(m.putName())) })
	m.put(")")
	if m.roll(2) == 0 {
		p.Result = m.typed("")
	}
	if m.roll(2) == 0 {
		m.put("begin")
		p.Begin = m.label()
	}
	if m.roll(2) == 0 {
		m.put("for")
		m.several(1, api.MaxChiefs, ",", func() { p.For = append(p.For, m.putName()) })
	}
	p.Body = m.block(3)
	return p
}

// program writes all kinds in any order.
func (m *maker) program() api.Program {
	var p api.Program
	for range m.roll(9) {
		switch m.roll(6) {
		case 0:
			m.put("chief")
			p.Chiefs = append(p.Chiefs, m.putName())
			m.put(";")
		case 1:
			m.put("acts")
			p.Acts = append(p.Acts, [2]string{m.putName(), m.putName()})
			m.put(";")
		case 2, 3:
			way := m.one("in", "out")
			at := m.put(way)
			q := m.typed(m.putName())
			p.Chans = append(p.Chans, api.Chan{At: at, Name: q.Name, In: way == "in", Type: q.Type, L: q.L})
			m.put(";")
		default:
			p.Procs = append(p.Procs, m.proc())
		}
	}
	return p
}

// fits: has p no more than a text may tell?
func fits(p api.Program) bool {
	return len(p.Chiefs) <= api.MaxChiefs && len(p.Chans) <= api.MaxChans && len(p.Procs) <= api.MaxProcs
}

// The grammar as a table, and a reader of it that keeps all stacks of what may come.

// symbol is a token ("'" and its text; "N": a name; "#": a number), one with which too much would begin ("!" and its text; "!" alone: whatever stands there, or nothing does), or what the table tells, with numbers that it counts.
type symbol struct {
	is         string
	a, b, c, d int
}

// row of words, each a token or one of the table.
func row(words string, behind ...symbol) []symbol {
	var l []symbol
	for _, w := range strings.Fields(words) {
		l = append(l, symbol{is: w})
	}
	return append(l, behind...)
}

// bounded: behind a token if n is less than most; else it can't stand there.
func bounded(token string, n, most int, behind ...symbol) []symbol {
	if n < most {
		return append([]symbol{{is: "'" + token}}, behind...)
	}
	return []symbol{{is: "!" + token}}
}

// rows answers of what s is one.
func rows(s symbol) [][]symbol {
	switch s.is {
	case "program":
		a, b, c, d := s, s, s, s
		a.a, b.b, c.c, d.d = s.a+1, s.b+1, s.c+1, s.d+1
		return [][]symbol{
			nil,
			bounded("chief", s.a, api.MaxChiefs, row("N ';", a)...),
			bounded("acts", s.b, api.MaxActs, row("N N ';", b)...),
			bounded("in", s.c, api.MaxChans, row("param ';", c)...),
			bounded("out", s.c, api.MaxChans, row("param ';", c)...),
			bounded("proc", s.d, api.MaxProcs, row("N params result begin for block", d)...),
		}
	case "param":
		return [][]symbol{row("N ': type label")}
	case "type":
		return [][]symbol{row("'int"), row("'bool")}
	case "result":
		return [][]symbol{nil, row("': type label")}
	case "begin":
		return [][]symbol{nil, row("'begin label")}
	case "label":
		return [][]symbol{row("'{ firstPolicy")}
	case "firstPolicy":
		return [][]symbol{row("'}"), row("policy", symbol{is: "policies", a: 1})}
	case "policies":
		return [][]symbol{row("'}"), bounded(";", s.a, api.MaxPolicies, row("policy", symbol{is: "policies", a: s.a + 1})...)}
	case "policy":
		return [][]symbol{row("N ': readers")}
	case "readers":
		return [][]symbol{nil, row("N", symbol{is: "names", a: 1})}
	case "names":
		return [][]symbol{nil, bounded(",", s.a, api.MaxChiefs, row("N", symbol{is: "names", a: s.a + 1})...)}
	case "for":
		return [][]symbol{nil, row("'for N", symbol{is: "names", a: 1})}
	case "params":
		return [][]symbol{row("'( firstParam")}
	case "firstParam":
		return [][]symbol{row("')"), row("param", symbol{is: "paramsLeft", a: 1})}
	case "paramsLeft":
		return [][]symbol{row("')"), bounded(",", s.a, api.MaxParams, row("param", symbol{is: "paramsLeft", a: s.a + 1})...)}
	}
	return append(blockRows(s), exprRows(s)...)
}

// blockRows: a counts within how many blocks, b the statements ahead.
func blockRows(s symbol) [][]symbol {
	block := symbol{is: "block", a: s.a + 1}
	switch s.is {
	case "block":
		if s.a == api.MaxDeep {
			return [][]symbol{row("'{ !")}
		}
		return [][]symbol{row("'{", symbol{is: "stmts", a: s.a})}
	case "stmts":
		if s.b == api.MaxBody {
			return [][]symbol{row("'}"), row("!")}
		}
		return [][]symbol{row("'}"), {{is: "stmt", a: s.a}, {is: "stmts", a: s.a, b: s.b + 1}}}
	case "stmt":
		return [][]symbol{
			row("'var N bears '= expr ';"), row("N '= expr ';"),
			row("'if expr", block, symbol{is: "else", a: s.a}), row("'while expr", block),
			row("'send N expr ';"), row("'take N N ';"), row("'do N args ';"), row("'return expr ';"),
		}
	case "bears":
		return [][]symbol{nil, row("label")}
	case "else":
		return [][]symbol{nil, row("'else", block)}
	}
	return nil
}

// exprRows: a counts within how many primary ones, b the Level or the args ahead.
func exprRows(s symbol) [][]symbol {
	within := symbol{is: "expr", a: s.a + 1}
	switch s.is {
	case "expr":
		if s.b == 5 {
			return [][]symbol{{{is: "primary", a: s.a}}}
		}
		return [][]symbol{{{is: "expr", a: s.a, b: s.b + 1}, {is: "tail", a: s.a, b: s.b + 1}}}
	case "tail":
		l := [][]symbol{nil}
		for _, sign := range strings.Fields([]string{"||", "&&", "== != < <= > >=", "+ -", "* / %"}[s.b-1]) {
			l = append(l, []symbol{{is: "'" + sign}, {is: "expr", a: s.a, b: s.b}, s})
		}
		return l
	case "primary":
		if s.a == api.MaxDeep {
			return [][]symbol{row("!")}
		}
		more := symbol{is: "primary", a: s.a + 1}
		return [][]symbol{
			row("#"), row("'true"), row("'false"), row("N", symbol{is: "called", a: s.a + 1}),
			row("'-", more), row("'!", more), append(row("'(", within), symbol{is: "')"}),
			append(row("'release '(", within), row("'to label ')")...),
		}
	case "called":
		return [][]symbol{nil, {{is: "args", a: s.a}}}
	case "args":
		return [][]symbol{row("'(", symbol{is: "firstArg", a: s.a})}
	case "firstArg":
		return [][]symbol{row("')"), {{is: "expr", a: s.a}, {is: "argsLeft", a: s.a, b: 1}}}
	case "argsLeft":
		return [][]symbol{row("')"), bounded(",", s.b, api.MaxParams, symbol{is: "expr", a: s.a}, symbol{is: "argsLeft", a: s.a, b: s.b + 1})}
	}
	return nil
}

// stack of what must come, the next one last.
type stack []symbol

// ready answers the stacks that come of s, each with a token next, or empty.
func ready(s stack) []stack {
	if len(s) == 0 {
		return []stack{s}
	}
	next, rest := s[len(s)-1], s[:len(s)-1]
	if next.is == "N" || next.is == "#" || strings.ContainsAny(next.is[:1], "'!") {
		return []stack{s}
	}
	var l []stack
	for _, r := range rows(next) {
		deeper := append(stack(nil), rest...)
		for i := range r {
			deeper = append(deeper, r[len(r)-1-i])
		}
		l = append(l, ready(deeper)...)
	}
	return l
}

// stands: may t stand where s is?
func stands(s symbol, t api.Token) bool {
	return s.is == "'"+t.Text || s.is == "N" && t.Kind == api.Name || s.is == "#" && t.Kind == api.Number
}

// told answers what is wrong with s, of the kind start, but for the last of the rules.
func told(s, start string) api.Fault {
	l, f := scan.Scan(s)
	if f.Code != api.OK {
		return f
	}
	open := ready(stack{{is: start}})
	for _, t := range append(l, api.Token{At: len(s)}) {
		var next []stack
		code := api.ErrText
		for _, k := range open {
			if len(k) == 0 {
				if t.Kind == 0 {
					return api.Fault{}
				}
				continue
			}
			top := k[len(k)-1]
			if t.Kind != 0 && stands(top, t) {
				next = append(next, ready(k[:len(k)-1])...)
			}
			if top.is == "!" || t.Kind != 0 && top.is == "!"+t.Text {
				code = api.ErrMany
			}
		}
		if len(next) == 0 {
			return api.Fault{Code: code, At: t.At}
		}
		open = next
	}
	return api.Fault{}
}

// changed answers s with some of its tokens left out, twice, changed, put in, or with its end left off.
func changed(d *thrower, s string) string {
	words := strings.Fields("chief acts in out proc begin for var if else while send take do return release to int bool true false ; ; , , : ( ) { } = + - ! < && x 7")
	l, _ := scan.Scan(s)
	for range 1 + d.roll(2) {
		if len(l) == 0 {
			break
		}
		i := d.roll(len(l))
		t := api.Token{Text: d.one(words...)}
		switch d.roll(6) {
		case 0:
			l = append(l[:i:i], l[i+1:]...)
		case 1:
			l = append(l[:i+1:i+1], l[i:]...)
		case 2:
			l[i] = t
		case 3, 4:
			l = append(append(l[:i:i], t), l[i:]...)
		case 5:
			l = l[:i]
		}
	}
	if len(l) > api.MaxTokens {
		l = l[:api.MaxTokens]
	}
	text, _ := scan.Join(l)
	return text + strings.Repeat(" ", d.roll(3))
}
