package parse

import (
	"fmt"
	"reflect"
	"strconv"
	"strings"
	"testing"
	"unsafe"

	"cloister/api"
	"cloister/label"
	"cloister/scan"
	"cloister/tree"
)

// P5.1

func TestExpr(t *testing.T) {
	for s, want := range map[string]api.Expr{
		"0":                    num(0, 0),
		" 999999999 ":          num(1, 999999999),
		"true":                 bit(0, 1),
		"\tfalse":              bit(1, 0),
		"twelve_bytes":         v(0, "twelve_bytes"),
		"f()":                  call(0, "f"),
		"f(x)":                 call(0, "f", v(2, "x")),
		"f ( a , 1, true,g())": call(0, "f", v(4, "a"), num(8, 1), bit(11, 1), call(16, "g")),
		"f(a+b)":               call(0, "f", op(3, "+", v(2, "a"), v(4, "b"))),
		"-x":                   op(0, "-", v(1, "x")),
		"!x":                   op(0, "!", v(1, "x")),
		"-5":                   op(0, "-", num(1, 5)),
		"- ! - x":              op(0, "-", op(2, "!", op(4, "-", v(6, "x")))),
		"(x)":                  v(1, "x"),
		"(((x)))":              v(3, "x"),
		"-(x)":                 op(0, "-", v(2, "x")),
		"(-x)":                 op(1, "-", v(2, "x")),
		"-f(x)":                op(0, "-", call(1, "f", v(3, "x"))),
		"release(x to {})":     release(0, v(8, "x"), nil),
		"release ( x+1 to {a:b , c;b:} )": release(0,
			op(11, "+", v(10, "x"), num(12, 1)), lab("a:b,c;b:")),
		"a||b":              op(1, "||", v(0, "a"), v(3, "b")),
		"a-b-c":             op(3, "-", op(1, "-", v(0, "a"), v(2, "b")), v(4, "c")),
		"a-(b-c)":           op(1, "-", v(0, "a"), op(4, "-", v(3, "b"), v(5, "c"))),
		"a/b%c*d":           op(5, "*", op(3, "%", op(1, "/", v(0, "a"), v(2, "b")), v(4, "c")), v(6, "d")),
		"a<b<=c":            op(3, "<=", op(1, "<", v(0, "a"), v(2, "b")), v(5, "c")),
		"a==b!=c":           op(4, "!=", op(1, "==", v(0, "a"), v(3, "b")), v(6, "c")),
		"a>b>=c":            op(3, ">=", op(1, ">", v(0, "a"), v(2, "b")), v(5, "c")),
		"a||b||c":           op(4, "||", op(1, "||", v(0, "a"), v(3, "b")), v(6, "c")),
		"a&&b&&c":           op(4, "&&", op(1, "&&", v(0, "a"), v(3, "b")), v(6, "c")),
		"a||b&&c":           op(1, "||", v(0, "a"), op(4, "&&", v(3, "b"), v(6, "c"))),
		"a&&b||c":           op(4, "||", op(1, "&&", v(0, "a"), v(3, "b")), v(6, "c")),
		"a&&b==c":           op(1, "&&", v(0, "a"), op(4, "==", v(3, "b"), v(6, "c"))),
		"a<b+c":             op(1, "<", v(0, "a"), op(3, "+", v(2, "b"), v(4, "c"))),
		"a+b*c":             op(1, "+", v(0, "a"), op(3, "*", v(2, "b"), v(4, "c"))),
		"(a+b)*c":           op(5, "*", op(2, "+", v(1, "a"), v(3, "b")), v(6, "c")),
		"-a+b":              op(2, "+", op(0, "-", v(1, "a")), v(3, "b")),
		"-(a+b)":            op(0, "-", op(3, "+", v(2, "a"), v(4, "b"))),
		"a- -b":             op(1, "-", v(0, "a"), op(3, "-", v(4, "b"))),
		"!a&&!b":            op(2, "&&", op(0, "!", v(1, "a")), op(4, "!", v(5, "b"))),
		"a # behind\n+ b#":  op(11, "+", v(0, "a"), v(13, "b")),
		"release(f(x)to{})": release(0, call(8, "f", v(10, "x")), nil),
	} {
		got, f := Expr(s)
		if !alike(got, want) || f != (api.Fault{}) {
			t.Errorf("Expr(%q) = %v, %v, want %v", s, got, f, want)
		}
	}
}

func TestLabel(t *testing.T) {
	for s, want := range map[string]api.Label{
		"{}":                    nil,
		" { } # none":           nil,
		"{a:}":                  lab("a:"),
		"{a:b}":                 lab("a:b"),
		"{a:a}":                 lab("a:a"),
		"{a:b,c;b:}":            lab("a:b,c;b:"),
		"{ a : ; a : b , b }":   lab("a:;a:b,b"),
		"{a:a,b,c,d,e,f}":       lab("a:a,b,c,d,e,f"),
		"{A:B;B:}":              lab("A:B;B:"),
		"{twelve_bytes:_}":      lab("twelve_bytes:_"),
		many("a:", 199):         lab(times("a:", ";", 199)),
		many("a:b", 149):        lab(times("a:b", ";", 149)),
		"{\na:b;\nc:d,\ne\n}\n": lab("a:b;c:d,e"),
	} {
		got, f := Label(s)
		if !alike(got, want) || f != (api.Fault{}) {
			t.Errorf("Label(%q) = %v, %v, want %v", s, got, f, want)
		}
	}
}

// many: a label of so many.
func many(policy string, n int) string { return "{" + times(policy, ";", n) + "}" }

func TestProgram(t *testing.T) {
	s := `
chief a; acts a b;
out o : bool { } ; # a channel
proc main() {
	var y=5;
	var z {b:a} = -x;
	var w {} = 1;
	y = f(y, 1);
	if y < z { send o y; while true { take y i; } } else { do g(); }
	if x { }
	return release(x to {a:b});
}
in i: int {a:b,c;b:};
proc f(p: int {a:}, q: bool {}): bool {b:} begin {a:} for b, a { }
chief b;
proc g() : int {} for a { do f(1, g()); }
proc h() begin {} { }
`
	at := func(piece string) int { return strings.Index(s, piece) }
	body := []api.Stmt{
		{Kind: api.Let, At: at("var y"), Name: "y", E: num(at("5;"), 5)},
		{Kind: api.Let, At: at("var z"), Name: "z", Labelled: true, L: lab("b:a"), E: op(at("-x"), "-", v(at("-x")+1, "x"))},
		{Kind: api.Let, At: at("var w"), Name: "w", Labelled: true, E: num(at("= 1;")+2, 1)},
		{Kind: api.Set, At: at("y = f"), Name: "y", E: call(at("f(y"), "f", v(at("y, 1"), "y"), num(at("1);"), 1))},
		{Kind: api.If, At: at("if y"), E: op(at("< z"), "<", v(at("y < z"), "y"), v(at("z {"+" send"), "z")), A: []api.Stmt{
			{Kind: api.Send, At: at("send"), Name: "o", E: v(at("y; while"), "y")},
			{Kind: api.While, At: at("while"), E: bit(at("true"), 1), A: []api.Stmt{{Kind: api.Take, At: at("take"), Name: "y", Of: "i"}}},
		}, B: []api.Stmt{{Kind: api.Do, At: at("do g"), E: call(at("g()"), "g")}}},
		{Kind: api.If, At: at("if x"), E: v(at("if x")+3, "x")},
		{Kind: api.Return, At: at("return"), E: release(at("release"), v(at("x to"), "x"), lab("a:b"))},
	}
	want := api.Program{
		Chiefs: []string{"a", "b"},
		Acts:   [][2]string{{"a", "b"}},
		Chans:  []api.Chan{{At: at("out"), Name: "o", Type: api.Bool}, {At: at("in i"), Name: "i", In: true, Type: api.Int, L: lab("a:b,c;b:")}},
		Procs: []api.Proc{
			{At: at("proc main"), Name: "main", Body: body},
			{At: at("proc f"), Name: "f", Params: []api.Param{{Name: "p", Type: api.Int, L: lab("a:")}, {Name: "q", Type: api.Bool}}, Result: api.Param{Type: api.Bool, L: lab("b:")}, Begin: lab("a:"), For: []string{"b", "a"}},
			{At: at("proc g"), Name: "g", Result: api.Param{Type: api.Int}, For: []string{"a"}, Body: []api.Stmt{{Kind: api.Do, At: at("do f"), E: call(at("f(1"), "f", num(at("1, g"), 1), call(at("g());"), "g"))}}},
			{At: at("proc h"), Name: "h"},
		},
	}
	got, f := Program(s)
	if !alike(got, want) || f != (api.Fault{}) {
		t.Errorf("Program = %v, %v, want %v", got, f, want)
	}
	for _, s := range []string{"", " ", "\n# nothing\n"} {
		if got, f := Program(s); !alike(got, api.Program{}) || f != (api.Fault{}) {
			t.Errorf("Program(%q) = %v, %v", s, got, f)
		}
	}
}

// TestMade reads texts of which is known what they are.
func TestMade(t *testing.T) {
	read, deep, many := 0, 0, 0
	for i := range 3000 {
		m := &maker{thrower: dice(i)}
		x := m.expr(1, 1+i%6)
		s := m.text.String()
		_, scanned := scan.Scan(s)
		want := api.Fault{}
		switch {
		case scanned.Code != api.OK:
			want, x, many = scanned, api.Expr{}, many+1
		case !tree.Formed(x):
			want, x, deep = api.Fault{Code: api.ErrMany}, api.Expr{}, deep+1
		default:
			read++
		}
		if got, f := Expr(s); !alike(got, x) || f != want {
			t.Fatalf("Expr(%q) = %v, %v, want %v, %v", s, got, f, x, want)
		}
	}
	if read < 2000 || deep < 20 || many < 5 {
		t.Errorf("expressions: %d read, %d too deep, %d too long", read, deep, many)
	}
	read = 0
	for i := range 3000 {
		m := &maker{thrower: dice(i)}
		p := m.program()
		s := m.text.String()
		_, want := scan.Scan(s)
		if want.Code != api.OK || !fits(p) || tree.Check(p) != api.OK {
			continue
		}
		read++
		if got, f := Program(s); !alike(got, p) || f != want {
			t.Fatalf("Program(%q) = %v, %v, want %v, %v", s, got, f, p, want)
		}
	}
	if read < 1000 {
		t.Errorf("programs: %d read", read)
	}
}

// fault is what a text has, and where: behind the piece of it.
type fault struct {
	text, ahead string
	code        api.Errno
}

// tell: each of l is told so, and nothing is left behind.
func tell(t *testing.T, what string, read func(string) (any, api.Fault), l []fault) {
	t.Helper()
	for _, k := range l {
		want := api.Fault{Code: k.code, At: len(k.ahead)}
		x, got := read(k.text)
		if !strings.HasPrefix(k.text, k.ahead) {
			t.Errorf("%q isn't ahead in %q", k.ahead, k.text)
		}
		if got != want || got.Code != api.OK && !reflect.ValueOf(x).IsZero() {
			t.Errorf("%s(%q) = %v, %v, want %v", what, k.text, x, got, want)
		}
	}
}

// faultOf answers read, whatever it answers.
func faultOf[T any](read func(string) (T, api.Fault)) func(string) (any, api.Fault) {
	return func(s string) (any, api.Fault) {
		x, f := read(s)
		return x, f
	}
}

// alike: are a and b the same, with their bytes? A list that has nothing in it may be nil or empty.
func alike(a, b any) bool {
	return fmt.Sprintf("%+v", a) == fmt.Sprintf("%+v", b)
}

func TestExprFaults(t *testing.T) {
	const text = api.ErrText
	tell(t, "Expr", faultOf(Expr), []fault{
		{"", "", text}, {"  ", "  ", text}, {"# x", "# x", text}, {"\n# x\n", "\n# x\n", text},
		{")", "", text}, {"x)", "x", text}, {"x y", "x ", text}, {"1 2", "1 ", text}, {"x 1", "x ", text}, {"1(", "1", text},
		{"x;", "x", text}, {"x = 1", "x ", text}, {"x:y", "x", text}, {"x,y", "x", text}, {"x{", "x", text}, {"x!y", "x", text}, {"x true", "x ", text},
		{"+", "", text}, {"+x", "", text}, {"*x", "", text}, {"x +", "x +", text}, {"x + ", "x + ", text}, {"x + # y", "x + # y", text}, {"x + * y", "x + ", text}, {"x ++ y", "x +", text},
		{"x < = y", "x < ", text}, {"x && ", "x && ", text}, {"x || )", "x || ", text}, {"x - ", "x - ", text}, {"x + y z", "x + y ", text},
		{"-", "-", text}, {"!", "!", text}, {"-)", "-", text}, {"- + x", "- ", text}, {"-x y", "-x ", text},
		{"(", "(", text}, {"()", "(", text}, {"(x", "(x", text}, {"(x y)", "(x ", text}, {"(x,y)", "(x", text}, {"(x))", "(x)", text}, {"(x)(y)", "(x)", text}, {"(f)(y)", "(f)", text}, {"(x)y", "(x)", text},
		{"f(", "f(", text}, {"f(1", "f(1", text}, {"f(1,", "f(1,", text}, {"f(1,)", "f(1,", text}, {"f(,1)", "f(", text}, {"f(1 2)", "f(1 ", text}, {"f(1;2)", "f(1", text}, {"f(1)(2)", "f(1)", text}, {"f())", "f()", text}, {"f(1,,2)", "f(1,", text},
		{"true(1)", "true", text}, {"if", "", text}, {"int", "", text}, {"to", "", text}, {"x to {}", "x ", text}, {"chief", "", text}, {"if(x)", "", text},
		{"release", "release", text}, {"release x to {}", "release ", text}, {"release(", "release(", text}, {"release()", "release(", text}, {"release( to {})", "release( ", text}, {"release(x", "release(x", text}, {"release(x)", "release(x", text}, {"release(x,y to {})", "release(x", text}, {"release(x y to {})", "release(x ", text}, {"release(x to", "release(x to", text}, {"release(x to)", "release(x to", text}, {"release(x to x)", "release(x to ", text}, {"release(x to {}", "release(x to {}", text}, {"release(x to {};", "release(x to {}", text}, {"release(x to {a})", "release(x to {a", text}, {"release(x to {}) y", "release(x to {}) ", text},
		{"{}", "", text}, {";", "", text}, {"=", "", text},
	})
}

func TestLabelFaults(t *testing.T) {
	const text, many = api.ErrText, api.ErrMany
	tell(t, "Label", faultOf(Label), []fault{
		{"", "", text}, {" ", " ", text}, {"a", "", text}, {"a:", "", text}, {"{", "{", text}, {"{ ", "{ ", text}, {"}", "", text}, {"(", "", text},
		{"{}}", "{}", text}, {"{} a", "{} ", text}, {"{}{}", "{}", text}, {"{{", "{", text},
		{"{a", "{a", text}, {"{a}", "{a", text}, {"{a;", "{a", text}, {"{a,b:}", "{a", text}, {"{a b:}", "{a ", text}, {"{:a}", "{", text}, {"{1:a}", "{", text}, {"{to:a}", "{", text}, {"{;}", "{", text}, {"{,}", "{", text},
		{"{a:", "{a:", text}, {"{a::}", "{a:", text}, {"{a:,b}", "{a:", text}, {"{a:,}", "{a:", text}, {"{a:1}", "{a:", text}, {"{a:to}", "{a:", text}, {"{a:b", "{a:b", text}, {"{a:b,", "{a:b,", text}, {"{a:b,}", "{a:b,", text}, {"{a:b c}", "{a:b ", text}, {"{a:b:c}", "{a:b", text}, {"{a:b,,c}", "{a:b,", text}, {"{a:b,;b:}", "{a:b,", text}, {"{a:b)", "{a:b", text},
		{"{a:;", "{a:;", text}, {"{a:;}", "{a:;", text}, {"{a:;;b:}", "{a:;", text}, {"{a:b;}", "{a:b;", text}, {"{a:b;c}", "{a:b;c", text}, {"{a:b;1:}", "{a:b;", text},
		{"{a:a,b,c,d,e,f,g}", "{a:a,b,c,d,e,f", many}, {"{a:a,a,a,a,a,a,", "{a:a,a,a,a,a,a", many}, {"{b:;a:a,a,a,a,a,a,}", "{b:;a:a,a,a,a,a,a", many}, {"{a:a,a,a,a,a,a a}", "{a:a,a,a,a,a,a ", text}, {"{a:a,a,a,a,a,a", "{a:a,a,a,a,a,a", text},
		{"{" + times("a:", ";", 199) + ";", "{" + times("a:", ";", 199) + ";", text},
		{"{" + times("a:", ";", 200), "{" + times("a:", ";", 200), text},
		{"{" + times("a:", ";", 201), "{" + times("a:", ";", 200), many},
		{"{" + times("a:", ";", 200) + "}", "{" + times("a:", ";", 200), many},
	})
}

func TestProgramFaults(t *testing.T) {
	const text = api.ErrText
	tell(t, "Program", faultOf(Program), []fault{
		{"x", "", text}, {";", "", text}, {"chief a;;", "chief a;", text}, {"1", "", text}, {"begin", "", text}, {"{}", "", text}, {"var x = 1;", "", text}, {"chief a; }", "chief a; ", text}, {"proc f() {} }", "proc f() {} ", text},
		{"chief", "chief", text}, {"chief ", "chief ", text}, {"chief ;", "chief ", text}, {"chief 1;", "chief ", text}, {"chief in;", "chief ", text}, {"chief a", "chief a", text}, {"chief a  # b", "chief a  # b", text}, {"chief a b;", "chief a ", text}, {"chief a, b;", "chief a", text}, {"chief a chief b;", "chief a ", text}, {"chief a: int {};", "chief a", text},
		{"acts", "acts", text}, {"acts a", "acts a", text}, {"acts a;", "acts a", text}, {"acts a b", "acts a b", text}, {"acts a b c;", "acts a b ", text}, {"acts a, b;", "acts a", text}, {"acts 1 b;", "acts ", text}, {"acts a for;", "acts a ", text},
		{"in", "in", text}, {"in;", "in", text}, {"in i", "in i", text}, {"in i;", "in i", text}, {"in i int {};", "in i ", text}, {"in i:", "in i:", text}, {"in i: {};", "in i: ", text}, {"in i: text {};", "in i: ", text}, {"in i: true {};", "in i: ", text}, {"in i: int", "in i: int", text}, {"in i: int;", "in i: int", text}, {"in i: int int {};", "in i: int ", text}, {"in i: int {", "in i: int {", text}, {"in i: int {a}", "in i: int {a", text}, {"in i: int {}", "in i: int {}", text}, {"in i: int {} in", "in i: int {} ", text}, {"in out: int {};", "in ", text}, {"in 1: int {};", "in ", text},
		{"out", "out", text}, {"out o: bool", "out o: bool", text}, {"out o: boolean {};", "out o: ", text}, {"out o: bool {a:b,};", "out o: bool {a:b,", text}, {"out o: bool {} {};", "out o: bool {} ", text},
		{"proc", "proc", text}, {"proc 1", "proc ", text}, {"proc proc", "proc ", text}, {"proc (", "proc ", text}, {"proc f", "proc f", text}, {"proc f {}", "proc f ", text}, {"proc f: int {} {}", "proc f", text}, {"proc f(", "proc f(", text}, {"proc f() ", "proc f() ", text}, {"proc f();", "proc f()", text},
		{"proc f(a", "proc f(a", text}, {"proc f(a)", "proc f(a", text}, {"proc f(a,b", "proc f(a", text}, {"proc f(a:", "proc f(a:", text}, {"proc f(a: int)", "proc f(a: int", text}, {"proc f(a: int {}", "proc f(a: int {}", text}, {"proc f(a: int {};", "proc f(a: int {}", text}, {"proc f(a: int {} b", "proc f(a: int {} ", text}, {"proc f(a: int {},", "proc f(a: int {},", text}, {"proc f(a: int {},)", "proc f(a: int {},", text}, {"proc f(, a: int {})", "proc f(", text}, {"proc f(1: int {})", "proc f(", text}, {"proc f(in: int {})", "proc f(", text}, {"proc f(a: x {})", "proc f(a: ", text},
		{"proc f():", "proc f():", text}, {"proc f(): {}", "proc f(): ", text}, {"proc f(): x", "proc f(): ", text}, {"proc f(): int", "proc f(): int", text}, {"proc f(): int begin", "proc f(): int ", text}, {"proc f(): int {}", "proc f(): int {}", text}, {"proc f(): int { return 1; }", "proc f(): int { ", text}, {"proc f(): int {}: int {}", "proc f(): int {}", text}, {"proc f() int {} {}", "proc f() ", text},
		{"proc f() begin", "proc f() begin", text}, {"proc f() begin for", "proc f() begin ", text}, {"proc f() begin a", "proc f() begin ", text}, {"proc f() begin {}", "proc f() begin {}", text}, {"proc f() begin {} begin {} {}", "proc f() begin {} ", text}, {"proc f() begin {}: int {} {}", "proc f() begin {}", text}, {"proc f() begin {} ;", "proc f() begin {} ", text},
		{"proc f() for", "proc f() for", text}, {"proc f() for {}", "proc f() for ", text}, {"proc f() for 1", "proc f() for ", text}, {"proc f() for a", "proc f() for a", text}, {"proc f() for a b {}", "proc f() for a ", text}, {"proc f() for a,", "proc f() for a,", text}, {"proc f() for a, {}", "proc f() for a, ", text}, {"proc f() for a for b {}", "proc f() for a ", text}, {"proc f() for a begin {} {}", "proc f() for a ", text}, {"proc f() for a;", "proc f() for a", text},
		{"proc f() {", "proc f() {", text}, {"proc f() { ", "proc f() { ", text}, {"proc f() {} ;", "proc f() {} ", text}, {"proc f() {}}", "proc f() {}", text}, {"proc f() {{}}", "proc f() {", text}, {"proc f() {;}", "proc f() {", text}, {"proc f() {1;}", "proc f() {", text}, {"proc f() {chief a;}", "proc f() {", text}, {"proc f() {proc", "proc f() {", text}, {"proc f() {else {}}", "proc f() {", text}, {"proc f() {(x) = 1;}", "proc f() {", text}, {"proc f() {true = 1;}", "proc f() {", text},
	})
}

func TestStatementFaults(t *testing.T) {
	const text = api.ErrText
	l := []fault{
		{"var", "var", text}, {"var ;", "var ", text}, {"var 1 = 1;", "var ", text}, {"var to = 1;", "var ", text}, {"var x", "var x", text}, {"var x;", "var x", text}, {"var x: int = 1;", "var x", text}, {"var x {", "var x {", text}, {"var x {a} = 1;", "var x {a", text}, {"var x {}", "var x {}", text}, {"var x {};", "var x {}", text}, {"var x {} {} = 1;", "var x {} ", text}, {"var x =", "var x =", text}, {"var x = ;", "var x = ", text}, {"var x == 1;", "var x ", text}, {"var x = 1", "var x = 1", text}, {"var x = 1 }", "var x = 1 ", text}, {"var x = 1, y = 2;", "var x = 1", text}, {"var x = {};", "var x = ", text},
		{"x", "x", text}, {"x;", "x", text}, {"x == 1;", "x ", text}, {"x()", "x", text}, {"x(1);", "x", text}, {"x y", "x ", text}, {"x {} = 1;", "x ", text}, {"x =", "x =", text}, {"x = ;", "x = ", text}, {"x = 1", "x = 1", text}, {"x = 1 }", "x = 1 ", text}, {"x = y = 1;", "x = y ", text}, {"x = if;", "x = ", text}, {"x = 1 y = 2;", "x = 1 ", text},
		{"if", "if", text}, {"if {", "if ", text}, {"if ;", "if ", text}, {"if x", "if x", text}, {"if x;", "if x", text}, {"if x {", "if x {", text}, {"if x { ;", "if x { ", text}, {"if x {} ;", "if x {} ", text}, {"if x send o 1;", "if x ", text}, {"if x {} else", "if x {} else", text}, {"if x {} else ;", "if x {} else ", text}, {"if x {} else if y {}", "if x {} else ", text}, {"if x {} else {", "if x {} else {", text}, {"if x {} else {} else {}", "if x {} else {} ", text}, {"if (x {}", "if (x ", text}, {"if x {}; ", "if x {}", text},
		{"while", "while", text}, {"while {", "while ", text}, {"while x", "while x", text}, {"while x;", "while x", text}, {"while x {", "while x {", text}, {"while x { 1", "while x { ", text}, {"while x {} else {}", "while x {} ", text}, {"while x {} ;", "while x {} ", text},
		{"send", "send", text}, {"send 1", "send ", text}, {"send ;", "send ", text}, {"send o", "send o", text}, {"send o;", "send o", text}, {"send o, 1;", "send o", text}, {"send o = 1;", "send o ", text}, {"send o 1", "send o 1", text}, {"send o 1 2;", "send o 1 ", text}, {"send o 1 }", "send o 1 ", text},
		{"take", "take", text}, {"take 1", "take ", text}, {"take x", "take x", text}, {"take x;", "take x", text}, {"take x 1;", "take x ", text}, {"take x, i;", "take x", text}, {"take x i", "take x i", text}, {"take x i + 1;", "take x i ", text}, {"take x in;", "take x ", text},
		{"do", "do", text}, {"do ;", "do ", text}, {"do 1;", "do ", text}, {"do f", "do f", text}, {"do f;", "do f", text}, {"do (f());", "do ", text}, {"do -f();", "do ", text}, {"do release(x to {});", "do ", text}, {"do f(", "do f(", text}, {"do f(,", "do f(", text}, {"do f(1", "do f(1", text}, {"do f(1,", "do f(1,", text}, {"do f()", "do f()", text}, {"do f() + 1;", "do f() ", text}, {"do f()();", "do f()", text}, {"do f() }", "do f() ", text},
		{"return", "return", text}, {"return;", "return", text}, {"return }", "return ", text}, {"return 1", "return 1", text}, {"return 1 2;", "return 1 ", text}, {"return 1 }", "return 1 ", text}, {"return return 1;", "return ", text},
	}
	for _, ahead := range []string{"proc f() { ", "proc f() { x = 1; if x { send o 1; } else { "} {
		for _, k := range l {
			tell(t, "Program", faultOf(Program), []fault{{ahead + k.text, ahead + k.ahead, k.code}})
		}
	}
}

// TestScanFirst: what Scan finds is told ahead of all else.
func TestScanFirst(t *testing.T) {
	for s, want := range map[string]api.Fault{
		") $":                      {Code: api.ErrText, At: 2},
		"x y 01":                   {Code: api.ErrRange, At: 4},
		") thirteen_byte":          {Code: api.ErrMany, At: 2},
		"} &":                      {Code: api.ErrText, At: 2},
		times(") ", "", 600) + ")": {Code: api.ErrMany, At: 1200},
		") " + strings.Repeat(" ", api.MaxText-1): {Code: api.ErrMany},
		strings.Repeat("(", 13) + "é":             {Code: api.ErrText, At: 13},
		"chief a; chief 1; $":                     {Code: api.ErrText, At: 18},
	} {
		for what, f := range map[string]func(string) (any, api.Fault){"Expr": faultOf(Expr), "Program": faultOf(Program), "Label": faultOf(Label)} {
			x, got := f(s)
			if got != want || !reflect.ValueOf(x).IsZero() {
				t.Errorf("%s(%q) = %v, %v, want %v", what, s, x, got, want)
			}
		}
	}
	if got, f := Expr(strings.Repeat(" ", api.MaxText-1) + "x"); !alike(got, v(api.MaxText-1, "x")) || f != (api.Fault{}) {
		t.Errorf("as long as may be: %v, %v", got, f)
	}
}

// TestMany: as many as may be, and one more, whatever is wrong with it.
func TestMany(t *testing.T) {
	const text, many = api.ErrText, api.ErrMany
	chiefs, acts := strings.Repeat("chief a; ", 6), strings.Repeat("acts a b; ", 10)
	chans, procs := strings.Repeat("in i: int {}; out o: bool {}; ", 3), strings.Repeat("proc f() {} ", 6)
	all := chiefs + acts + chans + procs
	tell(t, "Program", faultOf(Program), []fault{
		{all, "", api.OK}, {procs + chans + acts + chiefs, "", api.OK},
		{all + "chief b;", all, many}, {all + "chief", all, many}, {all + "acts a b;", all, many}, {all + "acts 1", all, many},
		{all + "in i: int {};", all, many}, {all + "in", all, many}, {all + "out o: int {};", all, many}, {all + "out ;", all, many}, {all + "proc f() {}", all, many}, {all + "proc {", all, many},
		{chiefs + "chief", chiefs, many}, {acts + "acts", acts, many}, {chans + "in", chans, many}, {chans + "out", chans, many}, {procs + "proc", procs, many},
		{all + "x", all, text}, {all + ";", all, text},
	})
	const seven, five = "proc f() for a, b, c, d, e, f", "proc f(a: int {}, b: int {}, c: int {}, d: bool {a:}"
	tell(t, "Program", faultOf(Program), []fault{
		{seven + " {}", "", api.OK}, {seven + ", g {}", seven, many}, {seven + ",", seven, many}, {seven + ", 1", seven, many}, {seven + " g", seven + " ", text}, {seven, seven, text},
		{five + ") {}", "", api.OK}, {five + ", e: int {}) {}", five, many}, {five + ",", five, many}, {five + ",)", five, many}, {five + "; e", five, text}, {five, five, text},
	})
	begin := "proc f() { " + strings.Repeat("x = 1; ", 20)
	tell(t, "Program", faultOf(Program), []fault{
		{begin + "}", "", api.OK}, {begin + "} proc g() { x = 1; }", "", api.OK}, {begin + "} chief a;", "", api.OK},
		{begin + "x = 1; }", begin, many}, {begin + "x", begin, many}, {begin + "if x {}", begin, many}, {begin + ")", begin, many}, {begin + "chief", begin, many}, {begin, begin, many}, {begin + "# x", begin + "# x", many}, {begin + "{", begin, many}, {begin + ";", begin, many},
		{"proc f() { " + strings.Repeat("x = 1; ", 19), "proc f() { " + strings.Repeat("x = 1; ", 19), text},
	})
	within := "proc f() { y = 1; if x { y = 1; } else { " + strings.Repeat("x = 1; ", 20)
	tell(t, "Program", faultOf(Program), []fault{{within + "} y = 1; }", "", api.OK}, {within + "y = 1; } }", within, many}, {within, within, many}, {within + "} ", within + "} ", text}})
	blocks := "proc f() { " + strings.Repeat("if x { } ", 10) + strings.Repeat("while x { x = 1; } ", 10)
	tell(t, "Program", faultOf(Program), []fault{{blocks + "}", "", api.OK}, {blocks + "else", blocks, many}, {blocks + "x = 1; }", blocks, many}})
	tell(t, "Expr", faultOf(Expr), []fault{
		{"f(1,2,3,4)", "", api.OK}, {"f(1,2,3,4) + f(1,2,3,4)", "", api.OK}, {"f(f(1,2,3,4),f(1,2,3,4),3,4)", "", api.OK},
		{"f(1,2,3,4,5)", "f(1,2,3,4", many}, {"f(1,2,3,4,)", "f(1,2,3,4", many}, {"f(1,2,3,4,", "f(1,2,3,4", many}, {"f(1,2,3,4 5)", "f(1,2,3,4 ", text}, {"f(1,2,3,4;5)", "f(1,2,3,4", text}, {"f(1,2,3,4", "f(1,2,3,4", text},
		{"f(1,g(1,2,3,4,5),3,4,5)", "f(1,g(1,2,3,4", many}, {"f(1,g(1,2,3,4),3,4,5)", "f(1,g(1,2,3,4),3,4", many},
	})
	tell(t, "Program", faultOf(Program), []fault{{"proc f() { do f(1,2,3,4); }", "", api.OK}, {"proc f() { do f(1,2,3,4,5); }", "proc f() { do f(1,2,3,4", many}})
}

// TestDeepPrimaries: as deep as may be, and one deeper, whatever stands there.
func TestDeepPrimaries(t *testing.T) {
	const text, many = api.ErrText, api.ErrMany
	ends := map[string]string{"(": ")", "-": "", "!": "", "- ": "", "f(": ")", "release(": " to {})", "-(": ")", "f(-(": "))", "x+(": ")", "!f(": ")"}
	for open, end := range ends {
		// With some of them more than one primary one begins.
		n := api.MaxDeep / (strings.Count(open, "(") + strings.Count(open, "-") + strings.Count(open, "!"))
		at := strings.Repeat(open, n)
		tell(t, "Expr", faultOf(Expr), []fault{
			{strings.Repeat(open, n-1) + "x" + strings.Repeat(end, n-1), "", api.OK},
			{at + "x" + strings.Repeat(end, n), at, many}, {at, at, many}, {at + " # ", at + " # ", many}, {at + "+", at, many}, {at + "(", at, many}, {at + "release", at, many}, {at + ";", at, many}, {at + "1 2", at, many},
		})
	}
	brackets := strings.Repeat("(", 11)
	shut := strings.Repeat(")", 11)
	tell(t, "Expr", faultOf(Expr), []fault{
		{brackets + "x" + shut, "", api.OK}, {brackets + "x+x*x" + shut, "", api.OK}, {brackets + "x" + shut + "*" + brackets + "x" + shut, "", api.OK}, {brackets + "f()" + shut, "", api.OK},
		{brackets + "f(x)" + shut, brackets + "f(", many}, {brackets + "f(", brackets + "f(", many}, {brackets + "f(;", brackets + "f(", many}, {brackets + "x+-x", brackets + "x+-", many}, {brackets + "x+", brackets + "x+", text}, {brackets + "release", brackets + "release", text}, {brackets + "release(", brackets + "release(", many}, {brackets + ")", brackets, text}, {brackets, brackets, text},
		{brackets + "x" + shut + "*(" + brackets + "x", brackets + "x" + shut + "*(" + brackets, many},
		{strings.Repeat("f(", 12) + strings.Repeat(")", 12), "", api.OK}, {strings.Repeat("f(", 12), strings.Repeat("f(", 12), many}, {strings.Repeat("f(1,", 11) + "f(1", strings.Repeat("f(1,", 11) + "f(", many}, {strings.Repeat("(x <", 11) + "f(", strings.Repeat("(x <", 11) + "f(", many},
		{strings.Repeat("f(", 11) + "x" + strings.Repeat(")", 11), "", api.OK}, {strings.Repeat("-", 11) + "x", "", api.OK}, {strings.Repeat("!", 11) + "x", "", api.OK},
		{strings.Repeat("release(", 11) + "x" + strings.Repeat(" to {a:})", 11), "", api.OK},
		{"f(" + times("-", "", 11) + "x)", "f(" + times("-", "", 11), many}, {"f(" + times("-", "", 10) + "x," + times("-", "", 10) + "x)", "", api.OK}, {"f(x,x,x," + times("-", "", 11) + "x)", "f(x,x,x," + times("-", "", 11), many},
	})
	// Each expression of a program begins anew; what follows do is no primary one.
	for _, s := range []string{"var x = ?;", "x = ?;", "if ? {}", "while ? {}", "send o ?;", "return ?;", "do f(?);", "do f(1, ?);", "if x { x = ?; }", "if x {} else { while y { x = ?; } }"} {
		ahead, behind, _ := strings.Cut(s, "?")
		ahead, behind = "proc f() { x = "+brackets+"x"+shut+"; "+ahead, behind+" }"
		tell(t, "Program", faultOf(Program), []fault{{ahead + brackets + "x" + shut + behind, "", api.OK}, {ahead + brackets + "(x)" + shut + behind, ahead + brackets + "(", many}, {ahead + brackets + "(", ahead + brackets + "(", many}})
	}
}

// TestDeepBlocks: as deep as may be, and one deeper, whatever stands there.
func TestDeepBlocks(t *testing.T) {
	const text, many = api.ErrText, api.ErrMany
	for _, open := range []string{"if x { ", "while x { ", "if x { } else { ", "x = 1; if x { } while x { } if x { "} {
		ahead := "proc f() { " + strings.Repeat(open, 11)
		shut := strings.Repeat("} ", 12)
		deeper := ahead + open
		if strings.HasSuffix(open, "else { ") {
			deeper = ahead + "if x { "
		}
		if strings.HasPrefix(open, "x = 1;") {
			deeper = ahead + "x = 1; if x { "
		}
		tell(t, "Program", faultOf(Program), []fault{
			{ahead + shut, "", api.OK}, {ahead + "x = 1; y = 2; " + shut, "", api.OK}, {ahead + shut + ahead + shut, "", api.OK}, {ahead, ahead, text}, {ahead + "if x", ahead + "if x", text}, {ahead + "if x ;", ahead + "if x ", text},
			{deeper + "} " + shut, deeper, many}, {deeper, deeper, many}, {deeper + "x = 1; } " + shut, deeper, many}, {deeper + ")", deeper, many}, {deeper + "else", deeper, many},
			{ahead + shut + deeper, ahead + shut + deeper, many},
		})
	}
	// Labels are no blocks.
	ahead := "proc f() { " + strings.Repeat("if x { ", 11)
	tell(t, "Program", faultOf(Program), []fault{{ahead + "var x {a:b} = release(x to {a:});" + strings.Repeat("} ", 12), "", api.OK}})
}

// TestAtLast: what was read but isn't formed.
func TestAtLast(t *testing.T) {
	const text, many = api.ErrText, api.ErrMany
	fits, deep := times("a", "+", 12), times("a", "+", 13)
	tell(t, "Expr", faultOf(Expr), []fault{
		{fits, "", api.OK}, {deep, "", many}, {"-" + deep, "", many}, {"-(" + times("a", "+", 11) + ")", "", api.OK}, {"-(" + fits + ")", "", many}, {"f(1," + fits + ")", "", many}, {"release(" + fits + " to {})", "", many}, {fits + "*a", "", api.OK}, {"a*" + fits, "", many}, {"(" + fits + ")*a", "", many}, {"((" + fits + "))", "", api.OK}, {strings.Repeat("(", 11) + deep + strings.Repeat(")", 11), "", many},
		{"f(a+" + times("f(a+", "", 4) + "a" + times(")", "", 5), "", api.OK}, {"f(a+" + times("f(a+", "", 5) + "a" + times(")", "", 6), "", many},
		{times("a", "||", 13), "", many}, {times("a", "&&", 13), "", many}, {times("a", "<", 13), "", many}, {times("a", "%", 13), "", many},
		{deep + " b", deep + " ", text}, {deep + "+", deep + "+", text}, {deep + ")", deep, text},
	})
	for _, s := range []string{"var x = ?;", "var x {a:} = ?;", "x = ?;", "if ? {}", "while ? {}", "send o ?;", "return ?;", "if x { x = ?; }", "if x {} else { x = ?; }", "while x { x = ?; }"} {
		full := "proc f() { " + strings.Replace(s, "?", fits, 1) + " }"
		over := "proc f() { " + strings.Replace(s, "?", deep, 1) + " }"
		tell(t, "Program", faultOf(Program), []fault{{full, "", api.OK}, {over, "", many}, {over + " x", over + " ", text}, {full + over + " chief a", full + over + " chief a", text}, {full + over + full, "", many}})
	}
	tell(t, "Program", faultOf(Program), []fault{{"proc f() { do f(1, " + times("a", "+", 11) + "); }", "", api.OK}, {"proc f() { do f(1, " + fits + "); }", "", many}})
}

// TestChanged holds texts that were changed against a table of the grammar.
func TestChanged(t *testing.T) {
	codes := map[api.Errno]int{}
	hold := func(s, start string, got api.Fault) {
		want := told(s, start)
		codes[want.Code]++
		if got != want && (want.Code != api.OK || got != api.Fault{Code: api.ErrMany} || signs(s) < 11) {
			t.Fatalf("%s(%q): %v, want %v", start, s, got, want)
		}
	}
	for i := range 1500 {
		m := &maker{thrower: dice(i)}
		m.program()
		s := changed(m.thrower, m.text.String())
		_, f := Program(s)
		hold(s, "program", f)
		m = &maker{thrower: dice(i)}
		m.expr(1, 1+i%4)
		s = changed(m.thrower, m.text.String())
		_, f = Expr(s)
		hold(s, "expr", f)
		m = &maker{thrower: dice(i)}
		m.label()
		s = changed(m.thrower, m.text.String())
		_, f = Label(s)
		hold(s, "label", f)
	}
	if codes[api.OK] < 300 || codes[api.ErrText] < 3000 {
		t.Errorf("told: %v", codes)
	}
}

// TestThrown holds tokens by chance, many of a few kinds, against the table.
func TestThrown(t *testing.T) {
	codes := map[api.Errno]int{}
	kinds := []struct{ start, ahead, words string }{
		{"expr", "", "( ( ( - f( f( release( x) x, 1"},
		{"expr", "", "( - ! f( f( x"},
		{"expr", "f(", "x, x, x, x, x) f( -"},
		{"label", "{", "a: a: a, a, a; a}"},
		{"label", "{a:", "a, a, a, a, a, a; }"},
		{"program", "", "|chief a;|chief a;|acts a b;|acts a a;|in i: int {};|out o: bool {a:};|proc f() {}|chief|x"},
		{"program", "proc f(", "|a: int {},|b: bool {a:b},|c: int {})|{}|for a,|a,|a|begin {}"},
		{"program", "proc f() {", "|if x {|while x {|if x { } else {|if x {|while x {|if x {|while x {|while x {|if x {|}|x = 1;"},
		{"program", "proc f() {", "|x = 1;|send o 1;|var x = 1;|take x i;|do f();|return x;|x = 1;|send o 1;|var x = 1;|take x i;|do f();|return x;|if x {}|while x {}|}"},
	}
	for i := range 4000 {
		d := dice(i)
		k := kinds[i%len(kinds)]
		words := strings.Fields(k.words)
		if strings.HasPrefix(k.words, "|") {
			words = strings.Split(k.words[1:], "|")
		}
		s := k.ahead
		for range d.roll(60) {
			s += " " + d.one(words...)
		}
		var f api.Fault
		switch k.start {
		case "expr":
			_, f = Expr(s)
		case "label":
			_, f = Label(s)
		case "program":
			_, f = Program(s)
		}
		want := told(s, k.start)
		codes[want.Code]++
		if f != want && (want.Code != api.OK || f != api.Fault{Code: api.ErrMany}) {
			t.Fatalf("%s(%q): %v, want %v", k.start, s, f, want)
		}
	}
	if codes[api.OK] < 50 || codes[api.ErrText] < 1000 || codes[api.ErrMany] < 300 {
		t.Errorf("told: %v", codes)
	}
}

// signs: with how many does something lie within something?
func signs(s string) int {
	n := 0
	for _, sign := range strings.Fields("( + - * / % < > ! = && ||") {
		n += strings.Count(s, sign)
	}
	return n
}

// P5.2

// TestPrinted: what is printed is read as it was; what is read is printed as what is read again.
func TestPrinted(t *testing.T) {
	read := 0
	for i := range 2000 {
		m := &maker{thrower: dice(i)}
		p := m.program()
		if text, code := tree.Print(p); code == api.OK && short(text) {
			read++
			printed(t, p, text)
		}
		x := (&maker{thrower: dice(i)}).expr(1, 1+i%6)
		if text, code := tree.Text(x); code == api.OK && short(text) {
			got, f := Expr(text)
			again, _ := tree.Text(got)
			if !tree.SameExpr(got, x) || again != text || f != (api.Fault{}) {
				t.Fatalf("Expr(%q) = %v, %v, want %v", text, got, f, x)
			}
		}
		l := (&maker{thrower: dice(i)}).label()
		text, _ := label.Print(l)
		if got, f := Label(text); !alike(got, l) || f != (api.Fault{}) {
			t.Fatalf("Label(%q) = %v, %v, want %v", text, got, f, l)
		}
	}
	if read < 1000 {
		t.Errorf("programs: %d read", read)
	}
}

// short: has text no more bytes and tokens than may be?
func short(text string) bool {
	_, f := scan.Scan(text)
	return f.Code == api.OK
}

// printed: text, which is p, is read as p.
func printed(t *testing.T, p api.Program, text string) {
	t.Helper()
	got, f := Program(text)
	again, code := tree.Print(got)
	if !tree.Same(got, p) || again != text || f != (api.Fault{}) || code != api.OK {
		t.Fatalf("Program(%q) = %v, %v, want %v", text, got, f, p)
	}
}

// TestPrintedEdges: the deepest, and the most of each.
func TestPrintedEdges(t *testing.T) {
	a := v(0, "a")
	for name, within := range map[string]func(x api.Expr, i int) api.Expr{
		"one":         func(x api.Expr, i int) api.Expr { return op(0, "-", x) },
		"ahead":       func(x api.Expr, i int) api.Expr { return op(0, "-", x, a) },
		"behind":      func(x api.Expr, i int) api.Expr { return op(0, "-", a, x) },
		"both":        func(x api.Expr, i int) api.Expr { return op(0, []string{"+", "*"}[i%2], a, x) },
		"one and two": func(x api.Expr, i int) api.Expr { return []api.Expr{op(0, "!", x), op(0, "||", a, x)}[i%2] },
		"two and one": func(x api.Expr, i int) api.Expr { return []api.Expr{op(0, "||", x, a), op(0, "!", x)}[i%2] },
		"call":        func(x api.Expr, i int) api.Expr { return call(0, "f", a, a, a, x) },
		"release":     func(x api.Expr, i int) api.Expr { return release(0, x, lab("a:b,c;b:")) },
		"all": func(x api.Expr, i int) api.Expr {
			return []api.Expr{op(0, "-", x), op(0, "*", x, x), call(0, "f", x), release(0, x, nil)}[i%4]
		},
	} {
		x := a
		for i := range api.MaxDeep {
			text, code := tree.Text(x)
			if got, f := Expr(text); code != api.OK || !tree.SameExpr(got, x) || f != (api.Fault{}) {
				t.Errorf("%s: Expr(%q) = %v, %v", name, text, got, f)
			}
			x = within(x, i)
		}
		if text, code := tree.Text(x); code != api.ErrForm {
			t.Errorf("%s: %q is too deep", name, text)
		}
	}
	if got, f := Expr("999999999"); !alike(got, num(0, 999999999)) || f != (api.Fault{}) {
		t.Errorf("the greatest number: %v, %v", got, f)
	}
	s := api.Stmt{Kind: api.Set, Name: "x", E: a}
	for i := range api.MaxDeep {
		p := api.Program{Procs: []api.Proc{{Name: "main", Body: []api.Stmt{s}}}}
		text, code := tree.Print(p)
		if code != api.OK {
			t.Fatal(code)
		}
		printed(t, p, text)
		s = api.Stmt{Kind: api.While, E: a, A: []api.Stmt{s}}
		if i%2 == 0 {
			s.Kind, s.B = api.If, s.A
			s.A = nil
		}
	}
	p := api.Program{Procs: []api.Proc{{Name: "main", Body: []api.Stmt{s}}}}
	if tree.Check(p) != api.ErrForm {
		t.Errorf("%v is too deep", p)
	}
	full := api.Program{Chiefs: strings.Fields("a b c d e f")}
	for i := range api.MaxActs {
		full.Acts = append(full.Acts, [2]string{"a", "x" + strconv.Itoa(i)})
	}
	for i := range api.MaxChans {
		full.Chans = append(full.Chans, api.Chan{Name: "c", In: i%2 == 0, Type: 1 + i%2, L: lab("a:a,b,c,d,e,f;b:")})
	}
	for i := range api.MaxProcs {
		q := api.Proc{Name: "p", Result: api.Param{Type: i % 3}}
		if i == 1 {
			q.For, q.Begin = full.Chiefs, lab("a:")
			for range api.MaxBody {
				q.Body = append(q.Body, api.Stmt{Kind: api.Do, E: call(0, "f")})
			}
			for range api.MaxParams {
				q.Params = append(q.Params, api.Param{Name: "x", Type: api.Bool})
			}
		}
		full.Procs = append(full.Procs, q)
	}
	text, code := tree.Print(full)
	if code != api.OK {
		t.Fatal(code)
	}
	printed(t, full, text)
}

// P1 to P3

// TestEnds: texts of any bytes, and pieces of texts.
func TestEnds(t *testing.T) {
	words := []string{"chief ", "proc f() {", "if x {", "{", "}", "(", ")", ";", ":", ",", "=", "-", "a", "1", "x = 1;", "release(", " to ", "\xff", "\x00", "# ", "\n", "f(", "&&", "é"}
	for i := range 3000 {
		d := dice(i)
		var s string
		for range d.roll(30) {
			s += d.one(words[:len(words)-6*(i%2)]...)
		}
		p, f := Program(s)
		x, g := Expr(s)
		l, h := Label(s)
		if f.Code != api.OK && !reflect.ValueOf(p).IsZero() || g.Code != api.OK && !reflect.ValueOf(x).IsZero() || h.Code != api.OK && l != nil {
			t.Fatalf("%q leaves %v, %v, %v behind", s, p, x, l)
		}
		for _, f := range []api.Fault{f, g, h} {
			if f.Code == api.OK && f.At != 0 || f.At < 0 || f.At > len(s) {
				t.Fatalf("%q: %v", s, f)
			}
		}
	}
}

// TestAgain: each call answers the same, and new memory.
func TestAgain(t *testing.T) {
	for i := range 300 {
		m := &maker{thrower: dice(i)}
		m.program()
		s := m.text.String()
		a, f := Program(s)
		b, g := Program(s)
		if !alike(a, b) || f != g {
			t.Fatalf("Program(%q) = %v, %v, then %v, %v", s, a, f, b, g)
		}
		apart(t, s, a, b)
		x, _ := Expr(s)
		apart(t, s, x, x.A)
	}
	s := "f(x, -y, release(z to {a:b,c;b:})) + true"
	x, _ := Expr(s)
	y, _ := Expr(s)
	apart(t, s, x, y)
	s = "{a:b,c;b:;c:a}"
	k, _ := Label(s)
	l, _ := Label(s)
	apart(t, s, k, l)
}

// apart: does nothing that is told share memory with s, and no list with another one?
func apart(t *testing.T, s string, a, b any) {
	t.Helper()
	first := uintptr(unsafe.Pointer(unsafe.StringData(s)))
	lists := map[uintptr]int{}
	var look func(x reflect.Value)
	look = func(x reflect.Value) {
		switch x.Kind() {
		case reflect.String:
			at := uintptr(unsafe.Pointer(unsafe.StringData(x.String())))
			if x.Len() > 0 && first <= at && at < first+uintptr(len(s)) {
				t.Fatalf("%q is a piece of %q", x.String(), s)
			}
		case reflect.Struct:
			for i := range x.NumField() {
				look(x.Field(i))
			}
		case reflect.Slice:
			if size := x.Type().Elem().Size(); x.Cap() > 0 {
				for at := x.Pointer(); at < x.Pointer()+uintptr(x.Cap())*size; at += size {
					lists[at]++
					if lists[at] > 1 {
						t.Fatalf("of %q two lists lie in one place", s)
					}
				}
			}
			for i := range x.Len() {
				look(x.Index(i))
			}
		case reflect.Array:
			for i := range x.Len() {
				look(x.Index(i))
			}
		}
	}
	look(reflect.ValueOf(a))
	if reflect.TypeOf(a) == reflect.TypeOf(b) {
		look(reflect.ValueOf(b))
	}
}
