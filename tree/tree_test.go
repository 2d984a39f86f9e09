package tree

import (
	"math"
	"reflect"
	"strconv"
	"strings"
	"testing"
	"unsafe"

	"cloister/api"
)

// P4.1

func TestLevel(t *testing.T) {
	for i, signs := range []string{"||", "&&", "== != < <= > >=", "+ -", "* / %"} {
		for _, s := range strings.Fields(signs) {
			if got := Level(s); got != i+1 {
				t.Errorf("%s: %d, want %d", s, got, i+1)
			}
		}
	}
	for _, s := range []string{"", "!", "=", "(", ")", "{", "}", ",", ";", ":", "|", "&", "|||", "&&&", "===", "<<", "=<", "=>", "+-", "**", "//", " +", "+ ", "+\x00", "== !=", "or", "a", "1", "\xff", strings.Repeat("+", 100000)} {
		if got := Level(s); got != 0 {
			t.Errorf("%.10q: %d, want 0", s, got)
		}
	}
}

// TestSameFields changes each field of two things that are the same, and of what lies within them, one after the other.
func TestSameFields(t *testing.T) {
	a, b := wholeProgram(), wholeProgram()
	eachChange(reflect.ValueOf(&b).Elem(), "program", func(path string) {
		if got, want := Same(a, b), strings.HasSuffix(path, ".At"); got != want || Same(b, a) != want {
			t.Errorf("%s: %v, want %v", path, got, want)
		}
	})
	s, u := wholeStmt(), wholeStmt()
	eachChange(reflect.ValueOf(&u).Elem(), "statement", func(path string) {
		if got, want := SameStmt(s, u), strings.HasSuffix(path, ".At"); got != want || SameStmt(u, s) != want {
			t.Errorf("%s: %v, want %v", path, got, want)
		}
	})
	x, y := wholeExpr(), wholeExpr()
	eachChange(reflect.ValueOf(&y).Elem(), "expression", func(path string) {
		if got, want := SameExpr(x, y), strings.HasSuffix(path, ".At"); got != want || SameExpr(y, x) != want {
			t.Errorf("%s: %v, want %v", path, got, want)
		}
	})
	if !Same(a, b) || !SameStmt(s, u) || !SameExpr(x, y) {
		t.Error("what has been changed back isn't the same")
	}
}

// TestSameEmptyLists: a list that has nothing in it may be nil or empty.
func TestSameEmptyLists(t *testing.T) {
	x := api.Expr{L: api.Label{}, A: []api.Expr{}}
	s := api.Stmt{L: api.Label{}, E: x, A: []api.Stmt{}, B: []api.Stmt{}}
	p := api.Program{Chiefs: []string{}, Acts: [][2]string{}, Chans: []api.Chan{}, Procs: []api.Proc{}}
	if !SameExpr(x, api.Expr{}) || !SameExpr(api.Expr{}, x) || !SameStmt(s, api.Stmt{}) || !SameStmt(api.Stmt{}, s) {
		t.Error("expressions or statements")
	}
	if !Same(p, api.Program{}) || !Same(api.Program{}, p) {
		t.Error("programs")
	}
	one := api.Program{Chans: []api.Chan{{}}, Procs: []api.Proc{{}}}
	two := api.Program{Chans: []api.Chan{{L: api.Label{}}}, Procs: []api.Proc{{Params: []api.Param{}, Result: api.Param{L: api.Label{}}, Begin: api.Label{}, For: []string{}, Body: []api.Stmt{}}}}
	if !Same(one, two) || !Same(two, one) {
		t.Error("channels or procedures")
	}
	if !SameExpr(release(v("a"), api.Label{{Owner: "a"}}), release(v("a"), api.Label{{Owner: "a", Readers: []string{}}})) {
		t.Error("Readers")
	}
}

func TestSameExpr(t *testing.T) {
	for _, c := range []struct {
		what string
		a, b api.Expr
		want bool
	}{
		{"nothing", api.Expr{}, api.Expr{}, true},
		{"names", v("a"), v("a"), true},
		{"other names", v("a"), v("b"), false},
		{"a name of another case", v("a"), v("A"), false},
		{"a longer name", v("a"), v("ab"), false},
		{"a call of none and a name", call("a"), v("a"), false},
		{"turned round", op("+", v("a"), v("b")), op("+", v("b"), v("a")), false},
		{"from the other side", op("+", op("+", v("a"), v("b")), v("c")), op("+", v("a"), op("+", v("b"), v("c"))), false},
		{"one more", call("f", v("a")), call("f", v("a"), v("a")), false},
		{"a bool and a number", bit(1), num(1), false},
		{"policies turned round", release(v("a"), lab("a:;b:")), release(v("a"), lab("b:;a:")), false},
		{"Readers turned round", release(v("a"), lab("a:b,c")), release(v("a"), lab("a:c,b")), false},
		{"twice the same policy", release(v("a"), lab("a:")), release(v("a"), lab("a:;a:")), false},
	} {
		if SameExpr(c.a, c.b) != c.want || SameExpr(c.b, c.a) != c.want {
			t.Errorf("%s: not %v", c.what, c.want)
		}
		let := func(x api.Expr) api.Stmt { return api.Stmt{Kind: api.Let, Name: "x", E: x} }
		if SameStmt(let(c.a), let(c.b)) != c.want || Same(prog(let(c.a)), prog(let(c.b))) != c.want {
			t.Errorf("%s, in a statement: not %v", c.what, c.want)
		}
	}
}

// TestSameEnds: lists that lie within themselves, deep ones, and shared ones.
func TestSameEnds(t *testing.T) {
	if !SameExpr(ring(1), ring(1)) || !SameExpr(ring(2), ring(2)) || !SameExpr(ring(2), ring(3)) {
		t.Error("rings of the same, all the way round")
	}
	other := ring(3)
	other.A[0].A[0].A[0].Name = "b"
	if SameExpr(ring(3), other) || SameExpr(other, ring(2)) || !SameExpr(other, other) {
		t.Error("rings of others")
	}
	if !SameStmt(stmtRing(1), stmtRing(2)) || SameStmt(stmtRing(1), api.Stmt{Kind: api.While, A: []api.Stmt{{}}}) {
		t.Error("rings of statements")
	}
	if !Same(prog(stmtRing(2)), prog(stmtRing(3))) {
		t.Error("rings in programs")
	}
	deep := chain(1000000)
	if !SameExpr(deep, chain(1000000)) || SameExpr(deep, chain(999999)) || SameExpr(chain(1000001), deep) {
		t.Error("deep ones")
	}
	if !SameExpr(shared(2, 70), shared(2, 70)) || SameExpr(shared(2, 70), shared(2, 71)) {
		t.Error("shared ones")
	}
}

func TestSize(t *testing.T) {
	for _, c := range []struct {
		what string
		x    api.Expr
		want int
		code api.Errno
	}{
		{"nothing", api.Expr{}, 1, api.OK},
		{"a number", num(5), 1, api.OK},
		{"a name", v("a"), 1, api.OK},
		{"an empty list", api.Expr{A: []api.Expr{}}, 1, api.OK},
		{"a sign of one", op("-", v("a")), 2, api.OK},
		{"a sign of two", op("+", v("a"), v("b")), 3, api.OK},
		{"a call of none", call("f"), 1, api.OK},
		{"a release", release(op("+", num(1), v("b")), lab("a:b,c;b:")), 4, api.OK},
		{"calls", call("f", call("g", v("a"), v("b")), call("h"), v("c"), num(1)), 7, api.OK},
		{"as deep as may be", chain(api.MaxDeep), api.MaxDeep, api.OK},
		{"too deep", chain(api.MaxDeep + 1), 0, api.ErrMany},
		{"far too deep", chain(1000000), 0, api.ErrMany},
		{"too deep at the end", call("f", v("a"), chain(api.MaxDeep)), 0, api.ErrMany},
		{"too deep ahead", call("f", chain(api.MaxDeep), v("a")), 0, api.ErrMany},
		{"as deep as may be twice", call("f", chain(api.MaxDeep-1), chain(api.MaxDeep-1)), 2*api.MaxDeep - 1, api.OK},
		{"many", api.Expr{A: make([]api.Expr, 100000)}, 100001, api.OK},
		{"shared", shared(2, api.MaxDeep), 1<<api.MaxDeep - 1, api.OK},
		{"shared by three", shared(3, api.MaxDeep), 265720, api.OK},
		{"shared too deep", shared(3, api.MaxDeep+1), 0, api.ErrMany},
		{"shared by many", shared(20, api.MaxDeep), 215578947368421, api.OK},
		{"more than an int can say", shared(10000, api.MaxDeep), math.MaxInt, api.OK},
		{"within itself", ring(1), 0, api.ErrMany},
		{"within others, and these within it", ring(3), 0, api.ErrMany},
	} {
		if n, code := Size(c.x); n != c.want || code != c.code {
			t.Errorf("%s: %d, %d, want %d, %d", c.what, n, code, c.want, c.code)
		}
	}
}

// TestSizeWithin: the one list in two places, as deep as may be in one, too deep in the other.
func TestSizeWithin(t *testing.T) {
	low := chain(api.MaxDeep - 1)
	for _, x := range []api.Expr{call("f", low, op("-", low)), call("f", op("-", low), low)} {
		if n, code := Size(x); n != 0 || code != api.ErrMany {
			t.Errorf("%d, %d", n, code)
		}
		if Formed(x) {
			t.Error("formed")
		}
	}
}

// P4.2

func TestFormed(t *testing.T) {
	longest := strings.Repeat("x", api.MaxName)
	for _, c := range []struct {
		what string
		x    api.Expr
		want bool
	}{
		{"nothing", api.Expr{}, false},
		{"no Kind", api.Expr{Kind: 6}, false},
		{"no Kind below", api.Expr{Kind: -1}, false},
		{"no Kind, with a Name", api.Expr{Name: "a"}, false},
		{"nought", num(0), true},
		{"the greatest number", num(999999999), true},
		{"one above it", num(1000000000), false},
		{"one below nought", num(-1), false},
		{"the least int", num(math.MinInt), false},
		{"the greatest int", num(math.MaxInt), false},
		{"false", bit(0), true},
		{"true", bit(1), true},
		{"a bool of two", bit(2), false},
		{"a bool below", bit(-1), false},
		{"a number of no type", api.Expr{Kind: api.Lit}, false},
		{"a number of another type", api.Expr{Kind: api.Lit, Type: 3}, false},
		{"a number with a Name", api.Expr{Kind: api.Lit, Type: api.Int, Name: "a"}, false},
		{"a number with a label", api.Expr{Kind: api.Lit, Type: api.Int, L: lab("a:")}, false},
		{"a number with one within", api.Expr{Kind: api.Lit, Type: api.Int, A: []api.Expr{num(1)}}, false},
		{"a number with empty lists", api.Expr{Kind: api.Lit, Type: api.Int, L: api.Label{}, A: []api.Expr{}}, true},
		{"a name", v("a"), true},
		{"the longest name", v(longest), true},
		{"a longer name", v(longest + "x"), false},
		{"no name", v(""), false},
		{"a word", v("if"), false},
		{"a word of the chapter alone", v("to"), false},
		{"a digit ahead", v("1a"), false},
		{"a blank", v("a "), false},
		{"a name with a type", api.Expr{Kind: api.Var, Name: "a", Type: api.Int}, false},
		{"a name with a number", api.Expr{Kind: api.Var, Name: "a", N: 1}, false},
		{"a name with a label", api.Expr{Kind: api.Var, Name: "a", L: lab("a:")}, false},
		{"a name with one within", api.Expr{Kind: api.Var, Name: "a", A: []api.Expr{num(1)}}, false},
		{"a name at a place", api.Expr{Kind: api.Var, Name: "a", At: -7}, true},
		{"minus", op("-", v("a")), true},
		{"not", op("!", v("a")), true},
		{"plus of one", op("+", v("a")), false},
		{"and of one", op("&&", v("a")), false},
		{"not of two", op("!", v("a"), v("b")), false},
		{"equals sign", op("=", v("a"), v("b")), false},
		{"minus of none", op("-"), false},
		{"minus of three", op("-", v("a"), v("b"), v("c")), false},
		{"not of none", op("!"), false},
		{"no sign of one", op("", v("a")), false},
		{"no sign of two", op("", v("a"), v("b")), false},
		{"a name as a sign", op("a", v("a"), v("b")), false},
		{"a sign with a type", api.Expr{Kind: api.Op, Name: "-", Type: api.Bool, A: []api.Expr{v("a")}}, false},
		{"a sign with a number", api.Expr{Kind: api.Op, Name: "-", N: -1, A: []api.Expr{v("a")}}, false},
		{"a sign with a label", api.Expr{Kind: api.Op, Name: "-", L: lab("a:"), A: []api.Expr{v("a")}}, false},
		{"wrong ahead of a sign", op("+", v("if"), v("b")), false},
		{"wrong behind a sign", op("+", v("a"), v("if")), false},
		{"wrong behind a sign of one", op("!", v("")), false},
		{"a call of none", call("f"), true},
		{"a call of as many as may be", call("f", v("a"), v("a"), num(1), bit(1)), true},
		{"a call of more", call("f", v("a"), v("a"), v("a"), v("a"), v("a")), false},
		{"a call of far more", call("f", make([]api.Expr, 100000)...), false},
		{"a call of a word", call("release", v("a")), false},
		{"a call of no name", call("", v("a")), false},
		{"a call of a wrong one", call("f", v("a"), v("a"), v("a"), v("")), false},
		{"a call with a type", api.Expr{Kind: api.Call, Name: "f", Type: api.Int}, false},
		{"a call with a number", api.Expr{Kind: api.Call, Name: "f", N: 3}, false},
		{"a call with a label", api.Expr{Kind: api.Call, Name: "f", L: lab("a:")}, false},
		{"a release", release(v("a"), lab("a:b,c;b:")), true},
		{"a release to nothing", release(v("a"), nil), true},
		{"a release to an empty list", release(v("a"), api.Label{}), true},
		{"a release of none", api.Expr{Kind: api.Release}, false},
		{"a release of two", api.Expr{Kind: api.Release, A: []api.Expr{v("a"), v("b")}}, false},
		{"a release of a wrong one", release(v("if"), nil), false},
		{"a release with a name", api.Expr{Kind: api.Release, Name: "a", A: []api.Expr{v("a")}}, false},
		{"a release with a type", api.Expr{Kind: api.Release, Type: api.Int, A: []api.Expr{v("a")}}, false},
		{"a release with a number", api.Expr{Kind: api.Release, N: 1, A: []api.Expr{v("a")}}, false},
		{"as deep as may be", chain(api.MaxDeep), true},
		{"too deep", chain(api.MaxDeep + 1), false},
		{"far too deep", chain(1000000), false},
		{"calls as deep as may be", call("f", v("a"), calls(api.MaxDeep-1)), true},
		{"calls too deep", call("f", v("a"), calls(api.MaxDeep)), false},
		{"calls too deep ahead", call("f", calls(api.MaxDeep), v("a")), false},
		{"shared", sharedCalls(2, api.MaxDeep), true},
		{"shared too deep", sharedCalls(4, api.MaxDeep+1), false},
		{"within itself", ring(1), false},
		{"within others, and these within it", ring(2), false},
	} {
		if got := Formed(c.x); got != c.want {
			t.Errorf("%s: %v, want %v", c.what, got, c.want)
		}
		s, code := Text(c.x)
		if c.want && (s == "" || code != api.OK) || !c.want && (s != "" || code != api.ErrForm) {
			t.Errorf("%s: %.60q, %d", c.what, s, code)
		}
	}
}

// labelForms: labels, and whether they have the form of one.
func labelForms() map[string]labelForm {
	longest := strings.Repeat("x", api.MaxName)
	return map[string]labelForm{
		"nothing":                 {nil, true},
		"one":                     {lab("a:"), true},
		"some":                    {lab("b:c,b,c;a:;b:c"), true},
		"as many Readers":         {lab("a:b,c,d,e,f,g"), true},
		"too many Readers":        {lab("a:b,c,d,e,f,g,h"), false},
		"as many policies":        {make2(api.MaxPolicies), true},
		"too many policies":       {make2(api.MaxPolicies + 1), false},
		"long names":              {lab(longest + ":" + longest), true},
		"too long an Owner":       {lab(longest + "x:"), false},
		"too long a Reader":       {lab("a:b," + longest + "x"), false},
		"no Owner":                {api.Label{{}}, false},
		"no Owner in the last":    {api.Label{{Owner: "a"}, {Readers: []string{"a"}}}, false},
		"a word as Owner":         {lab("for:"), false},
		"a word as Reader":        {lab("a:b,true"), false},
		"a Reader without a name": {api.Label{{Owner: "a", Readers: []string{""}}}, false},
		"a Reader that is none":   {api.Label{{Owner: "a"}, {Owner: "a", Readers: []string{"b", "1"}}}, false},
	}
}

type labelForm struct {
	l  api.Label
	ok bool
}

func TestFormedLabels(t *testing.T) {
	for what, c := range labelForms() {
		if got := Formed(release(v("a"), c.l)); got != c.ok {
			t.Errorf("%s: %v, want %v", what, got, c.ok)
		}
	}
}

func TestText(t *testing.T) {
	a, b, c, d := v("a"), v("b"), v("c"), v("d")
	for _, e := range []struct {
		x    api.Expr
		want string
	}{
		{num(0), "0"},
		{num(10), "10"},
		{num(999999999), "999999999"},
		{bit(0), "false"},
		{bit(1), "true"},
		{a, "a"},
		{op("-", a), "-a"},
		{op("!", a), "!a"},
		{op("-", num(5)), "-5"},
		{op("-", op("-", num(5))), "--5"},
		{op("!", op("-", op("!", bit(1)))), "!-!true"},
		{op("+", a, b), "a + b"},
		{op("-", op("-", a), op("-", b)), "-a - -b"},
		{op("-", op("-", a, b)), "-(a - b)"},
		{op("-", op("*", a, b)), "-(a * b)"},
		{op("!", op("||", a, b)), "!(a || b)"},
		{op("!", call("f", op("+", a, b))), "!f(a + b)"},
		{op("!", release(op("+", a, b), nil)), "!release(a + b to {})"},
		{op("*", op("+", a, b), c), "(a + b) * c"},
		{op("*", a, op("+", b, c)), "a * (b + c)"},
		{op("+", op("*", a, b), op("/", c, d)), "a * b + c / d"},
		{op("%", op("/", a, b), op("*", c, d)), "a / b % (c * d)"},
		{op("-", op("+", a, b), op("+", c, d)), "a + b - (c + d)"},
		{op("<", op("<", a, b), op("==", c, d)), "a < b < (c == d)"},
		{op("==", op(">=", a, b), c), "a >= b == c"},
		{op("&&", op("&&", a, b), op("&&", c, d)), "a && b && (c && d)"},
		{op("||", op("||", a, b), op("||", c, d)), "a || b || (c || d)"},
		{op("||", op("&&", a, b), op("&&", c, d)), "a && b || c && d"},
		{op("&&", op("||", a, b), op("||", c, d)), "(a || b) && (c || d)"},
		{op("&&", op("<=", a, b), op("!=", c, d)), "a <= b && c != d"},
		{op("<=", op("&&", a, b), op("||", c, d)), "(a && b) <= (c || d)"},
		{op(">", op("+", a, b), op("-", c, d)), "a + b > c - d"},
		{op("+", op(">", a, b), op("<", c, d)), "(a > b) + (c < d)"},
		{op("*", op("-", op("+", a, b)), op("-", c)), "-(a + b) * -c"},
		{op("*", op("!", a), op("||", op("*", b, c), d)), "!a * (b * c || d)"},
		{call("f"), "f()"},
		{call("f", a), "f(a)"},
		{call("f", op("||", a, b), num(1), bit(0), call("g", c)), "f(a || b, 1, false, g(c))"},
		{release(a, nil), "release(a to {})"},
		{release(op("||", a, b), lab("a:b,c;b:")), "release(a || b to {a:b,c;b:})"},
		{op("*", release(op("+", a, b), lab("a:")), call("f", op("+", a, b))), "release(a + b to {a:}) * f(a + b)"},
	} {
		if s, code := Text(e.x); s != e.want || code != api.OK {
			t.Errorf("%q, %d, want %q", s, code, e.want)
		}
	}
}

// TestTextIsRead reads what is printed by the grammar; each pair of brackets that stands there must stand there.
func TestTextIsRead(t *testing.T) {
	d := dice(1)
	for range 20000 {
		x := d.expr(1 + d.roll(6))
		s, code := Text(x)
		if code != api.OK {
			t.Fatalf("%v: %d", x, code)
		}
		if y, ok := read(s); !ok || !SameExpr(x, y) {
			t.Fatalf("%q is read as %v, not %v", s, y, x)
		}
		for i := range s {
			less, ok := without(s, i)
			if !ok {
				continue
			}
			if y, ok := read(less); ok && SameExpr(x, y) {
				t.Fatalf("%q would do for %q", less, s)
			}
		}
	}
}

// P4.3

// TestCheck changes a program that is formed.
func TestCheck(t *testing.T) {
	for _, c := range []struct {
		what   string
		change func(p *api.Program)
		want   api.Errno
	}{
		{"as it is", func(p *api.Program) {}, api.OK},
		{"nothing", func(p *api.Program) { *p = api.Program{} }, api.OK},
		{"as many chiefs", func(p *api.Program) { p.Chiefs = strings.Fields("a a a a a a") }, api.OK},
		{"too many chiefs", func(p *api.Program) { p.Chiefs = strings.Fields("a b c d e f g") }, api.ErrMany},
		{"as many acts", func(p *api.Program) { p.Acts = acts(api.MaxActs) }, api.OK},
		{"too many acts", func(p *api.Program) { p.Acts = acts(api.MaxActs + 1) }, api.ErrMany},
		{"as many channels", func(p *api.Program) { p.Chans = fill(p.Chans[0], api.MaxChans) }, api.OK},
		{"too many channels", func(p *api.Program) { p.Chans = fill(p.Chans[0], api.MaxChans+1) }, api.ErrMany},
		{"as many procedures", func(p *api.Program) { p.Procs = fill(p.Procs[0], api.MaxProcs) }, api.OK},
		{"too many procedures", func(p *api.Program) { p.Procs = fill(p.Procs[0], api.MaxProcs+1) }, api.ErrMany},
		{"a chief without a name", func(p *api.Program) { p.Chiefs[1] = "" }, api.ErrForm},
		{"a word as a chief", func(p *api.Program) { p.Chiefs[0] = "in" }, api.ErrForm},
		{"acts of a word", func(p *api.Program) { p.Acts[0][0] = "in" }, api.ErrForm},
		{"acts for none", func(p *api.Program) { p.Acts[1][1] = "" }, api.ErrForm},
		{"acts of others", func(p *api.Program) { p.Acts[1] = [2]string{"z", "z"} }, api.OK},
		{"a channel of no type", func(p *api.Program) { p.Chans[0].Type = api.None }, api.ErrForm},
		{"a channel of another type", func(p *api.Program) { p.Chans[1].Type = 3 }, api.ErrForm},
		{"a channel of a type below", func(p *api.Program) { p.Chans[1].Type = -1 }, api.ErrForm},
		{"a channel without a name", func(p *api.Program) { p.Chans[1].Name = "" }, api.ErrForm},
		{"a word as a channel", func(p *api.Program) { p.Chans[0].Name = "out" }, api.ErrForm},
		{"as many Params", func(p *api.Program) { p.Procs[1].Params = fill(p.Procs[1].Params[0], api.MaxParams) }, api.OK},
		{"too many Params", func(p *api.Program) { p.Procs[1].Params = fill(p.Procs[1].Params[0], api.MaxParams+1) }, api.ErrMany},
		{"as many statements", func(p *api.Program) { p.Procs[1].Body = fill(send(v("x")), api.MaxBody) }, api.OK},
		{"too many statements", func(p *api.Program) { p.Procs[1].Body = fill(send(v("x")), api.MaxBody+1) }, api.ErrMany},
		{"as many For", func(p *api.Program) { p.Procs[1].For = fill("a", api.MaxChiefs) }, api.OK},
		{"too many For", func(p *api.Program) { p.Procs[1].For = fill("a", api.MaxChiefs+1) }, api.ErrMany},
		{"a procedure without a name", func(p *api.Program) { p.Procs[0].Name = "" }, api.ErrForm},
		{"a word as a procedure", func(p *api.Program) { p.Procs[1].Name = "proc" }, api.ErrForm},
		{"a Param without a name", func(p *api.Program) { p.Procs[1].Params[0].Name = "" }, api.ErrForm},
		{"a word as a Param", func(p *api.Program) { p.Procs[1].Params[1].Name = "int" }, api.ErrForm},
		{"a word in For", func(p *api.Program) { p.Procs[0].For = []string{"a", "for"} }, api.ErrForm},
		{"For none", func(p *api.Program) { p.Procs[1].For[0] = "" }, api.ErrForm},
		{"a Result with a name", func(p *api.Program) { p.Procs[1].Result.Name = "x" }, api.ErrForm},
		{"no Result with a name", func(p *api.Program) { p.Procs[0].Result.Name = "x" }, api.ErrForm},
		{"a Result of another type", func(p *api.Program) { p.Procs[1].Result.Type = 3 }, api.ErrForm},
		{"a Result of a type below", func(p *api.Program) { p.Procs[1].Result.Type = -1 }, api.ErrForm},
		{"a Result of Int", func(p *api.Program) { p.Procs[1].Result.Type = api.Int }, api.OK},
		{"no Result with a label", func(p *api.Program) { p.Procs[1].Result.Type = api.None }, api.ErrForm},
		{"no Result with an empty label", func(p *api.Program) { p.Procs[0].Result.L = api.Label{} }, api.OK},
		{"a Param of no type", func(p *api.Program) { p.Procs[1].Params[1].Type = api.None }, api.ErrForm},
		{"a Param of another type", func(p *api.Program) { p.Procs[1].Params[0].Type = 3 }, api.ErrForm},
		{"a wrong statement", func(p *api.Program) { p.Procs[1].Body[0].Kind = 9 }, api.ErrForm},
		{"a wrong statement at the end", func(p *api.Program) {
			p.Procs[0].Body = append(fill(send(v("x")), api.MaxBody-1), send(v("if")))
		}, api.ErrForm},
	} {
		p := wholeProgram()
		c.change(&p)
		checked(t, c.what, p, c.want)
	}
}

func TestCheckLabels(t *testing.T) {
	for what, c := range labelForms() {
		want := api.OK
		if !c.ok {
			want = api.ErrForm
		}
		for i, change := range []func(p *api.Program){
			func(p *api.Program) { p.Chans[0].L = c.l },
			func(p *api.Program) { p.Chans[1].L = c.l },
			func(p *api.Program) { p.Procs[1].Params[0].L = c.l },
			func(p *api.Program) { p.Procs[1].Params[1].L = c.l },
			func(p *api.Program) { p.Procs[1].Result.L = c.l },
			func(p *api.Program) { p.Procs[0].Begin = c.l },
			func(p *api.Program) {
				p.Procs[0].Body[0] = api.Stmt{Kind: api.Let, Name: "x", Labelled: true, L: c.l, E: num(1)}
			},
			func(p *api.Program) { p.Procs[1].Body[0] = send(release(v("x"), c.l)) },
		} {
			p := wholeProgram()
			change(&p)
			checked(t, what+", "+strconv.Itoa(i), p, want)
		}
	}
}

// TestCheckInOrder: of two errors the first.
func TestCheckInOrder(t *testing.T) {
	tooManyProcs := func(p *api.Program) { p.Procs = fill(p.Procs[0], api.MaxProcs+1) }
	wrongChief := func(p *api.Program) { p.Chiefs[0] = "" }
	wrongActs := func(p *api.Program) { p.Acts[0][1] = "" }
	wrongChan := func(p *api.Program) { p.Chans[1].Type = 0 }
	wrongName := func(p *api.Program) { p.Procs[0].Name = "" }
	wrongBody := func(p *api.Program) { p.Procs[0].Body[0].Kind = 0 }
	many := func(p *api.Program) { p.Procs[0].Params = make([]api.Param, api.MaxParams+1) }
	manyStatements := func(p *api.Program) { p.Procs[0].Body = make([]api.Stmt, api.MaxBody+1) }
	manyFor := func(p *api.Program) { p.Procs[0].For = make([]string, api.MaxChiefs+1) }
	manyLater := func(p *api.Program) { p.Procs[1].Params = make([]api.Param, api.MaxParams+1) }
	wrongLater := func(p *api.Program) { p.Procs[1].Result.Type = 7 }
	for i, c := range []struct {
		a, b func(p *api.Program)
		want api.Errno
	}{
		{tooManyProcs, wrongChief, api.ErrMany},
		{tooManyProcs, wrongActs, api.ErrMany},
		{tooManyProcs, wrongChan, api.ErrMany},
		{wrongChief, many, api.ErrForm},
		{wrongActs, many, api.ErrForm},
		{wrongChan, many, api.ErrForm},
		{many, wrongName, api.ErrMany},
		{many, wrongBody, api.ErrMany},
		{manyStatements, wrongName, api.ErrMany},
		{manyFor, wrongBody, api.ErrMany},
		{wrongName, manyLater, api.ErrForm},
		{wrongBody, manyLater, api.ErrForm},
		{many, wrongLater, api.ErrMany},
	} {
		for _, l := range [][]func(p *api.Program){{c.a, c.b}, {c.b, c.a}} {
			p := wholeProgram()
			for _, change := range l {
				change(&p)
			}
			checked(t, "pair "+strconv.Itoa(i), p, c.want)
		}
	}
}

// TestStatements: which statements are formed.
func TestStatements(t *testing.T) {
	x, f := v("x"), call("f")
	one := []api.Stmt{send(num(1))}
	for _, c := range []struct {
		what string
		s    api.Stmt
		ok   bool
	}{
		{"nothing", api.Stmt{}, false},
		{"no Kind", api.Stmt{Kind: 9, E: x}, false},
		{"no Kind below", api.Stmt{Kind: -1, E: x}, false},
		{"let", api.Stmt{Kind: api.Let, Name: "a", E: x}, true},
		{"let with a label", api.Stmt{Kind: api.Let, Name: "a", Labelled: true, L: lab("a:"), E: x}, true},
		{"let with an empty label", api.Stmt{Kind: api.Let, Name: "a", Labelled: true, E: x}, true},
		{"let with a label, not Labelled", api.Stmt{Kind: api.Let, Name: "a", L: lab("a:"), E: x}, false},
		{"let of a word", api.Stmt{Kind: api.Let, Name: "var", E: x}, false},
		{"let of none", api.Stmt{Kind: api.Let, E: x}, false},
		{"let of", api.Stmt{Kind: api.Let, Name: "a", Of: "b", E: x}, false},
		{"let be nothing", api.Stmt{Kind: api.Let, Name: "a"}, false},
		{"let with a block", api.Stmt{Kind: api.Let, Name: "a", E: x, A: one}, false},
		{"let with another block", api.Stmt{Kind: api.Let, Name: "a", E: x, B: one}, false},
		{"let with empty lists", api.Stmt{Kind: api.Let, Name: "a", L: api.Label{}, E: x, A: []api.Stmt{}, B: []api.Stmt{}}, true},
		{"set", api.Stmt{Kind: api.Set, Name: "a", E: x}, true},
		{"set none", api.Stmt{Kind: api.Set, E: x}, false},
		{"set of", api.Stmt{Kind: api.Set, Name: "a", Of: "b", E: x}, false},
		{"set, Labelled", api.Stmt{Kind: api.Set, Name: "a", Labelled: true, E: x}, false},
		{"set with a label", api.Stmt{Kind: api.Set, Name: "a", L: lab("a:"), E: x}, false},
		{"set to a wrong one", api.Stmt{Kind: api.Set, Name: "a", E: num(-1)}, false},
		{"set to what is too deep", api.Stmt{Kind: api.Set, Name: "a", E: chain(api.MaxDeep + 1)}, false},
		{"set to what is deep", api.Stmt{Kind: api.Set, Name: "a", E: chain(api.MaxDeep)}, true},
		{"set with a block", api.Stmt{Kind: api.Set, Name: "a", E: x, A: one}, false},
		{"if", api.Stmt{Kind: api.If, E: x}, true},
		{"if with blocks", api.Stmt{Kind: api.If, E: x, A: one, B: one}, true},
		{"if with the other block", api.Stmt{Kind: api.If, E: x, B: one}, true},
		{"if of nothing", api.Stmt{Kind: api.If, A: one}, false},
		{"if with a name", api.Stmt{Kind: api.If, Name: "a", E: x, A: one}, false},
		{"if of", api.Stmt{Kind: api.If, Of: "a", E: x, A: one}, false},
		{"if, Labelled", api.Stmt{Kind: api.If, Labelled: true, E: x, A: one}, false},
		{"if with a label", api.Stmt{Kind: api.If, L: lab("a:"), E: x, A: one}, false},
		{"if with as many", api.Stmt{Kind: api.If, E: x, A: fill(send(x), api.MaxBody), B: fill(send(x), api.MaxBody)}, true},
		{"if with too many", api.Stmt{Kind: api.If, E: x, A: fill(send(x), api.MaxBody+1)}, false},
		{"if with too many others", api.Stmt{Kind: api.If, E: x, B: fill(send(x), api.MaxBody+1)}, false},
		{"if with a wrong one", api.Stmt{Kind: api.If, E: x, A: []api.Stmt{send(x), {}}}, false},
		{"if with another wrong one", api.Stmt{Kind: api.If, E: x, A: one, B: []api.Stmt{send(x), {}}}, false},
		{"while", api.Stmt{Kind: api.While, E: x}, true},
		{"while with a block", api.Stmt{Kind: api.While, E: x, A: one}, true},
		{"while with another block", api.Stmt{Kind: api.While, E: x, A: one, B: one}, false},
		{"while of nothing", api.Stmt{Kind: api.While, A: one}, false},
		{"while with a name", api.Stmt{Kind: api.While, Name: "a", E: x}, false},
		{"while with as many", api.Stmt{Kind: api.While, E: x, A: fill(send(x), api.MaxBody)}, true},
		{"while with too many", api.Stmt{Kind: api.While, E: x, A: fill(send(x), api.MaxBody+1)}, false},
		{"while with a wrong one", api.Stmt{Kind: api.While, E: x, A: []api.Stmt{{Kind: api.While, E: x, A: []api.Stmt{{}}}}}, false},
		{"send", send(x), true},
		{"send none", api.Stmt{Kind: api.Send, E: x}, false},
		{"send of", api.Stmt{Kind: api.Send, Name: "a", Of: "b", E: x}, false},
		{"send nothing", api.Stmt{Kind: api.Send, Name: "a"}, false},
		{"send with a label", api.Stmt{Kind: api.Send, Name: "a", L: lab("a:"), E: x}, false},
		{"send, Labelled", api.Stmt{Kind: api.Send, Name: "a", Labelled: true, E: x}, false},
		{"send with a block", api.Stmt{Kind: api.Send, Name: "a", E: x, A: one}, false},
		{"take", api.Stmt{Kind: api.Take, Name: "a", Of: "b"}, true},
		{"take, at a place", api.Stmt{Kind: api.Take, At: 3, Name: "a", Of: "b", E: api.Expr{At: 7}}, true},
		{"take with empty lists", api.Stmt{Kind: api.Take, Name: "a", Of: "b", E: api.Expr{L: api.Label{}, A: []api.Expr{}}}, true},
		{"take none", api.Stmt{Kind: api.Take, Of: "b"}, false},
		{"take of none", api.Stmt{Kind: api.Take, Name: "a"}, false},
		{"take a word", api.Stmt{Kind: api.Take, Name: "take", Of: "b"}, false},
		{"take of a word", api.Stmt{Kind: api.Take, Name: "a", Of: "in"}, false},
		{"take with one", api.Stmt{Kind: api.Take, Name: "a", Of: "b", E: x}, false},
		{"take with a Kind", api.Stmt{Kind: api.Take, Name: "a", Of: "b", E: api.Expr{Kind: api.Call}}, false},
		{"take with a number", api.Stmt{Kind: api.Take, Name: "a", Of: "b", E: api.Expr{N: 1}}, false},
		{"take with a type", api.Stmt{Kind: api.Take, Name: "a", Of: "b", E: api.Expr{Type: 1}}, false},
		{"take with a name in it", api.Stmt{Kind: api.Take, Name: "a", Of: "b", E: api.Expr{Name: "x"}}, false},
		{"take with a label in it", api.Stmt{Kind: api.Take, Name: "a", Of: "b", E: api.Expr{L: lab("a:")}}, false},
		{"take with one within", api.Stmt{Kind: api.Take, Name: "a", Of: "b", E: api.Expr{A: []api.Expr{{}}}}, false},
		{"take with a block", api.Stmt{Kind: api.Take, Name: "a", Of: "b", B: one}, false},
		{"take, Labelled", api.Stmt{Kind: api.Take, Name: "a", Of: "b", Labelled: true}, false},
		{"do", api.Stmt{Kind: api.Do, E: f}, true},
		{"do a name", api.Stmt{Kind: api.Do, E: x}, false},
		{"do a release", api.Stmt{Kind: api.Do, E: release(f, nil)}, false},
		{"do a wrong call", api.Stmt{Kind: api.Do, E: call("do")}, false},
		{"do what is deep", api.Stmt{Kind: api.Do, E: calls(api.MaxDeep)}, true},
		{"do what is too deep", api.Stmt{Kind: api.Do, E: calls(api.MaxDeep + 1)}, false},
		{"do nothing", api.Stmt{Kind: api.Do}, false},
		{"do with a name", api.Stmt{Kind: api.Do, Name: "a", E: f}, false},
		{"do of", api.Stmt{Kind: api.Do, Of: "a", E: f}, false},
		{"do with a block", api.Stmt{Kind: api.Do, E: f, A: one}, false},
		{"return", api.Stmt{Kind: api.Return, E: x}, true},
		{"return nothing", api.Stmt{Kind: api.Return}, false},
		{"return with a name", api.Stmt{Kind: api.Return, Name: "a", E: x}, false},
		{"return of", api.Stmt{Kind: api.Return, Of: "a", E: x}, false},
		{"return with another block", api.Stmt{Kind: api.Return, E: x, B: one}, false},
		{"return, Labelled", api.Stmt{Kind: api.Return, Labelled: true, E: x}, false},
	} {
		want := api.OK
		if !c.ok {
			want = api.ErrForm
		}
		checked(t, c.what, prog(c.s), want)
		checked(t, c.what+", behind another one", prog(send(x), c.s), want)
		checked(t, c.what+", within a while", prog(api.Stmt{Kind: api.While, E: x, A: []api.Stmt{c.s}}), want)
		checked(t, c.what+", within an if", prog(api.Stmt{Kind: api.If, E: x, B: []api.Stmt{send(x), c.s}}), want)
	}
}

func TestDeepStatements(t *testing.T) {
	x := v("x")
	within := func(s api.Stmt, deep, kind int) api.Stmt {
		for i := range deep {
			s = api.Stmt{Kind: kind, E: x, A: []api.Stmt{s}}
			if kind == api.If && i%2 == 0 {
				s.A, s.B = nil, s.A
			}
		}
		return s
	}
	for _, kind := range []int{api.If, api.While} {
		checked(t, "a send as deep as may be", prog(within(send(x), api.MaxDeep-1, kind)), api.OK)
		checked(t, "a send too deep", prog(within(send(x), api.MaxDeep, kind)), api.ErrForm)
		checked(t, "a send far too deep", prog(within(send(x), 100000, kind)), api.ErrForm)
		for _, inner := range []int{api.If, api.While} {
			s := api.Stmt{Kind: inner, E: x}
			checked(t, "an empty one as deep as may be", prog(within(s, api.MaxDeep-2, kind)), api.OK)
			checked(t, "an empty one too deep", prog(within(s, api.MaxDeep-1, kind)), api.ErrForm)
		}
		deepest := within(api.Stmt{Kind: api.Set, Name: "a", E: chain(api.MaxDeep)}, api.MaxDeep-1, kind)
		checked(t, "an expression as deep as may be in it", prog(deepest), api.OK)
	}
	checked(t, "within itself", prog(stmtRing(1)), api.ErrForm)
	checked(t, "within others, and these within it", prog(stmtRing(3)), api.ErrForm)
	low := within(send(x), api.MaxDeep-1, api.While)
	checked(t, "in two places, too deep in one", prog(low, within(low, 1, api.While)), api.ErrForm)
}

// TestCheckEnds: lists that are shared, so that there are more statements than can be gone through one by one.
func TestCheckEnds(t *testing.T) {
	l := []api.Stmt{send(sharedCalls(api.MaxParams, api.MaxDeep))}
	for range api.MaxDeep - 1 {
		l = fill(api.Stmt{Kind: api.If, E: v("x"), A: l, B: l}, api.MaxBody)
	}
	p := prog(l...)
	if code := Check(p); code != api.OK {
		t.Errorf("%d", code)
	}
	p.Procs[0].Body = []api.Stmt{{Kind: api.If, E: v("x"), A: l, B: l}}
	if code := Check(p); code != api.ErrForm {
		t.Errorf("one more: %d", code)
	}
}

// P4.4

func TestPrint(t *testing.T) {
	for _, c := range []struct {
		what string
		p    api.Program
		want string
	}{
		{"nothing", api.Program{}, ""},
		{"chiefs", api.Program{Chiefs: []string{"b", "a", "b"}}, "chief b;\nchief a;\nchief b;\n"},
		{"acts", api.Program{Acts: [][2]string{{"a", "b"}, {"z", "a"}}}, "acts a b;\nacts z a;\n"},
		{"channels", api.Program{Chans: []api.Chan{{Name: "o", Type: api.Int}, {Name: "i", In: true, Type: api.Bool, L: lab("a:b,c;b:")}, {Name: "p", Type: api.Bool, L: lab("a:")}, {Name: "j", In: true, Type: api.Int}}}, "out o: int {};\nin i: bool {a:b,c;b:};\nout p: bool {a:};\nin j: int {};\n"},
		{"a procedure", prog(), "proc main() {\n}\n"},
		{"a Param", api.Program{Procs: []api.Proc{{Name: "f", Params: []api.Param{{Name: "a", Type: api.Int}}}}}, "proc f(a: int {}) {\n}\n"},
		{"a Result", api.Program{Procs: []api.Proc{{Name: "f", Result: api.Param{Type: api.Int}}}}, "proc f(): int {} {\n}\n"},
		{"begin", api.Program{Procs: []api.Proc{{Name: "f", Begin: lab("a:b")}}}, "proc f() begin {a:b} {\n}\n"},
		{"for", api.Program{Procs: []api.Proc{{Name: "f", For: []string{"b", "a", "b"}}}}, "proc f() for b, a, b {\n}\n"},
		{"an if with nothing", prog(api.Stmt{Kind: api.If, E: v("x")}), "proc main() {\n\tif x {\n\t}\n}\n"},
		{"an if with what is else", prog(api.Stmt{Kind: api.If, E: v("x"), B: []api.Stmt{send(num(1))}}), "proc main() {\n\tif x {\n\t} else {\n\t\tsend o 1;\n\t}\n}\n"},
		{"a while with nothing", prog(api.Stmt{Kind: api.While, E: bit(1)}), "proc main() {\n\twhile true {\n\t}\n}\n"},
		{"all of it", wholeProgram(), wholeText},
	} {
		if s, code := Print(c.p); s != c.want || code != api.OK {
			t.Errorf("%s: %q, %d, want %q", c.what, s, code, c.want)
		}
	}
}

const wholeText = `chief a;
chief b;
acts a b;
acts b a;
in i: int {a:b,c;b:};
out o: bool {};
proc main() begin {a:} {
	var y = 5;
	var z {b:a} = -x;
	y = f(y, z + 1);
	if y < z && !x {
		send o y;
		while true {
			take y i;
		}
	} else {
		do g();
		if x {
		} else {
			return release(x to {a:b});
		}
	}
}
proc f(p: int {a:}, q: bool {}): bool {b:} for b, a {
	while p == 0 {
		p = p - 1;
	}
	return q;
}
`

// TestPrintIsRead reads what is printed line by line.
func TestPrintIsRead(t *testing.T) {
	d := dice(2)
	for range 2000 {
		p := d.program()
		s, code := Print(p)
		if code != api.OK || Check(p) != api.OK {
			t.Fatalf("%v: %d", p, code)
		}
		r := reader{lines: strings.SplitAfter(s, "\n")}
		q := r.program()
		if r.wrong != "" || !Same(p, q) {
			t.Fatalf("%q is read as %v: %s", s, q, r.wrong)
		}
	}
}

// P1 to P3

// TestReadOnly: what is handed in stays as it was, with its spare room; what is answered is new.
func TestReadOnly(t *testing.T) {
	p, q := roomy(wholeProgram()), roomy(wholeProgram())
	s, _ := Print(p)
	Check(p)
	Same(p, q)
	for _, u := range p.Procs[0].Body {
		SameStmt(u, u)
		Text(u.E)
		Size(u.E)
		Formed(u.E)
	}
	if !reflect.DeepEqual(whole(p), whole(q)) {
		t.Error("changed")
	}
	if s != wholeText {
		t.Error("what was answered changed")
	}
	name := strings.Repeat("n", 3)
	if text, _ := Text(v(name)); text != name || unsafe.StringData(text) == unsafe.StringData(name) {
		t.Error("a name is handed out")
	}
}

// checked: Check and Print answer so.
func checked(t *testing.T, what string, p api.Program, want api.Errno) {
	t.Helper()
	if got := Check(p); got != want {
		t.Errorf("%s: %d, want %d", what, got, want)
	}
	s, code := Print(p)
	if code != want || want != api.OK && s != "" {
		t.Errorf("%s: Print: %.60q, %d, want %d", what, s, code, want)
	}
}
