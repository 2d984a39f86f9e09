package fold

import (
	"math"
	"reflect"
	"runtime"
	"slices"
	"strings"
	"testing"

	"cloister/api"
	"cloister/check"
	"cloister/parse"
	"cloister/run"
	"cloister/scope"
	"cloister/tree"
	"cloister/view"
)

// P13.1

// TestExpr: what is reckoned ahead, and what isn't.
func TestExpr(t *testing.T) {
	for s, want := range map[string]string{
		"7":                       "7",
		"true":                    "true",
		"x":                       "x",
		"1 + 2 * 3":               "7",
		"(1 + 2) * 3":             "9",
		"17 / 5":                  "3",
		"17 % 5":                  "2",
		"7 / 0":                   "0",
		"7 % 0":                   "0",
		"5 - 5":                   "0",
		"5 - 6":                   "5 - 6",
		"-0":                      "0",
		"-1":                      "-1",
		"-(1 - 1)":                "0",
		"-(1 + 1)":                "-2",
		"--1":                     "--1",
		"1 - 2 + 2":               "1 - 2 + 2",
		"1 - 2 + (2 + 3)":         "1 - 2 + 5",
		"999999998 + 1":           "999999999",
		"999999999 + 0":           "999999999",
		"999999999 + 1":           "999999999 + 1",
		"999999999 + 1 - 1":       "999999999 + 1 - 1",
		"999999999 + (1 - 1)":     "999999999",
		"999999999 * 1":           "999999999",
		"31622 * 31622":           "999950884",
		"31623 * 31623":           "31623 * 31623",
		"999999999 * 999999999":   "999999999 * 999999999",
		"999999999 + 1 > 5":       "999999999 + 1 > 5",
		"1 < 2":                   "true",
		"2 < 2":                   "false",
		"2 <= 2":                  "true",
		"3 <= 2":                  "false",
		"2 > 1":                   "true",
		"2 > 2":                   "false",
		"2 >= 2":                  "true",
		"1 >= 2":                  "false",
		"1 == 1":                  "true",
		"1 != 1":                  "false",
		"true == true":            "true",
		"true != false":           "true",
		"!true":                   "false",
		"!false":                  "true",
		"!!true":                  "true",
		"!(1 < 2)":                "false",
		"true && false":           "false",
		"true && true":            "true",
		"false || true":           "true",
		"false || false":          "false",
		"1 == 1 && true":          "true",
		"x + 1 + 2":               "x + 1 + 2",
		"x + (1 + 2)":             "x + 3",
		"1 + 2 + x":               "3 + x",
		"0 * x":                   "0 * x",
		"x * 0":                   "x * 0",
		"x - x":                   "x - x",
		"false && x":              "false && x",
		"x || true":               "x || true",
		"!x":                      "!x",
		"!(x == 1 + 1)":           "!(x == 2)",
		"-(x + 2 * 2)":            "-(x + 4)",
		"f()":                     "f()",
		"f(1)":                    "f(1)",
		"f(1 + 1, x, !true)":      "f(2, x, false)",
		"f(1) + (1 + 1)":          "f(1) + 2",
		"1 + f(2 * 3)":            "1 + f(6)",
		"release(1 to {})":        "release(1 to {})",
		"release(1 + 1 to {a:b})": "release(2 to {a:b})",
		"release(1 to {a:}) + 1":  "release(1 to {a:}) + 1",
		"1 + 1 == release(2 * f(3 + 0) to {b:a}) / (4 - 2)": "2 == release(2 * f(3) to {b:a}) / 2",
	} {
		x, f := parse.Expr(s)
		if f.Code != api.OK {
			t.Fatalf("%s: %v", s, f)
		}
		y, code := Expr(x)
		text, _ := tree.Text(y)
		z, _ := parse.Expr(text)
		if code != api.OK || text != want || !tree.SameExpr(y, z) {
			t.Errorf("%s: %s, %v, want %s", s, text, code, want)
		}
	}
}

// TestSigns: each sign with each two Lits, whatever they are.
func TestSigns(t *testing.T) {
	lits := []api.Expr{flag(0), flag(1), num(0), num(1), num(2), num(7), num(31622), num(31623), num(999999998), num(999999999)}
	for _, a := range lits {
		for _, b := range lits {
			for _, sign := range signs {
				kept(t, op(sign, a, b), strings.Contains("|| && == != < <= > >=", sign))
			}
		}
		kept(t, op("!", a), true)
		kept(t, op("-", a), false)
	}
}

// kept: x, an Op of Lits, becomes what chapter 10 says that it comes to, Bool or Int; or it stays.
func kept(t *testing.T, x api.Expr, truth bool) {
	t.Helper()
	n := map[string]int{"!": 1}[x.Name] - x.A[0].N
	if len(x.A) == 2 {
		n, _ = run.Reckon(x.Name, x.A[0].N, x.A[1].N)
	}
	want := num(n)
	if truth {
		want = flag(n)
	}
	if n < 0 || n > 999999999 {
		want = x
	}
	if y, code := Expr(x); code != api.OK || whole(y) != whole(want) {
		t.Errorf("%v: %v, %v, want %v", x, y, code, want)
	}
}

// TestPlaces: a Lit stands where the Op stood; all others stay where they are.
func TestPlaces(t *testing.T) {
	sum := api.Expr{Kind: api.Op, At: 17, Name: "+", A: []api.Expr{{Kind: api.Lit, At: 3, Type: api.Int, N: 1}, {Kind: api.Lit, At: 4, Type: api.Int, N: 2}}}
	x := api.Expr{Kind: api.Call, At: -5, Name: "f", A: []api.Expr{sum, {Kind: api.Var, At: 9, Name: "x"}, {Kind: api.Op, At: 20, Name: "-", A: []api.Expr{sum}}}}
	three := api.Expr{Kind: api.Lit, At: 17, Type: api.Int, N: 3}
	want := api.Expr{Kind: api.Call, At: -5, Name: "f", A: []api.Expr{three, {Kind: api.Var, At: 9, Name: "x"}, {Kind: api.Op, At: 20, Name: "-", A: []api.Expr{three}}}}
	if y, code := Expr(x); code != api.OK || whole(y) != whole(want) {
		t.Errorf("%v, %v", y, code)
	}
	// With places of a text: the Op's is that of its sign, or of what it begins with: here it is asked, not told.
	y, _ := parse.Expr("  x + 2 * (3 - 1)")
	z, _ := Expr(y)
	if z.At != y.At || z.A[1].At != y.A[1].At || z.A[1].N != 4 || z.A[0].At != 2 {
		t.Errorf("%v, was %v", z, y)
	}
}

// TestExprMade: made expressions, of right types or not, are as they are from without; and folding them again changes nothing.
func TestExprMade(t *testing.T) {
	lits, within, stayed := 0, 0, 0
	for i := range 20000 {
		x := dice(i).formed(1 + i%6)
		y, code := Expr(x)
		if want := shortened(x); code != api.OK || whole(y) != whole(want) {
			t.Fatalf("%d: %v, %v, want %v, was %v", i, y, code, want, x)
		}
		if again, code := Expr(y); code != api.OK || whole(again) != whole(y) {
			t.Fatalf("%d: %v, %v, then %v", i, y, code, again)
		}
		switch {
		case x.Kind == api.Op && y.Kind == api.Lit:
			lits++
		case whole(x) == whole(y):
			stayed++
		default:
			within++
		}
	}
	if lits < 1000 || within < 1000 || stayed < 1000 {
		t.Errorf("%d of them became Lits, %d were folded within, %d stayed", lits, within, stayed)
	}
}

// TestUnformed: what isn't Formed isn't folded.
func TestUnformed(t *testing.T) {
	deep, most := num(0), num(0)
	for i := range api.MaxDeep {
		deep = op("-", deep)
		if i == api.MaxDeep-2 {
			most = deep
		}
	}
	ring := []api.Expr{op("-")}
	ring[0].A = ring
	named, within, labelled := num(1), num(1), num(1)
	named.Name, within.A, labelled.L = "x", []api.Expr{num(1)}, api.Label{{Owner: "a"}}
	for what, x := range map[string]api.Expr{
		"nothing":              {},
		"another kind":         {Kind: 6},
		"too deep":             deep,
		"within itself":        ring[0],
		"below 0":              num(-1),
		"too great":            num(1000000000),
		"great":                num(math.MaxInt),
		"no truth":             flag(2),
		"no type":              {Kind: api.Lit, N: 1},
		"a Lit with a name":    named,
		"a Lit with others":    within,
		"a Lit with a label":   labelled,
		"a name that is none":  v("1x"),
		"a word":               v("while"),
		"no sign":              op("", num(1), num(2)),
		"another sign":         op("=", num(1), num(2)),
		"a sign of two":        op("+", num(1)),
		"a sign of one":        op("!", flag(1), flag(1)),
		"of none":              op("-"),
		"of three":             op("+", num(1), num(2), num(3)),
		"an Op with a number":  {Kind: api.Op, Name: "+", N: 1, A: []api.Expr{num(1), num(2)}},
		"an Op with a type":    {Kind: api.Op, Name: "+", Type: api.Int, A: []api.Expr{num(1), num(2)}},
		"five":                 call("f", slices.Repeat([]api.Expr{num(1)}, api.MaxParams+1)...),
		"a call without name":  call(""),
		"a label without form": release(api.Label{{Owner: "a b"}}, num(1)),
		"a release of two":     {Kind: api.Release, A: []api.Expr{num(1), num(1)}},
		"within an Op":         op("+", num(1), num(-1)),
		"within a call":        call("f", op("+", num(1), flag(3))),
	} {
		if y, code := Expr(x); code != api.ErrForm || whole(y) != whole(api.Expr{}) {
			t.Errorf("%s: %v, %v", what, y, code)
		}
	}
	if y, code := Expr(most); code != api.OK || whole(y) != whole(num(0)) {
		t.Errorf("as deep as may be: %v, %v", y, code)
	}
}

// P13.2

const house = "chief a; chief b; acts a b; in s: int {a:}; in u: int {}; in v: bool {}; out o: int {}; out d: int {a:}; "

// around: a main with these statements, where x and y are there, behind a procedure f.
func around(s string) string {
	return house + "proc f(n: int {}): int {} { return n; } proc main() for b { var x = 0; var y = true; " + s + " }"
}

// TestStatements: what is left of statements.
func TestStatements(t *testing.T) {
	for s, want := range map[string]string{
		"":                            "",
		"var z = 1 + 2;":              "var z = 3;",
		"var z {a:b} = !true;":        "var z {a:b} = false;",
		"x = 2 * 3 - 1;":              "x = 5;",
		"y = 1 == 2;":                 "y = false;",
		"send o 1 + 2;":               "send o 3;",
		"send d x + (1 + 2);":         "send d x + 3;",
		"take x s; take y v;":         "take x s; take y v;",
		"do f(1 + 2);":                "do f(3);",
		"x = f(f(1 + 2));":            "x = f(f(3));",
		"x = release(1 + 2 to {});":   "x = release(3 to {});",
		"if x < 1 + 1 { x = 1 + 1; }": "if x < 2 { x = 2; }",
		"if y { x = 1 + 1; } else { x = 2 + 2; }": "if y { x = 2; } else { x = 4; }",
		"if y { }":                            "if y { }",
		"while y { }":                         "while y { }",
		"while x < 2 + 3 {x = x + (3 - 2); }": "while x < 5 { x = x + 1; }",
		// A While whose E is false.
		"while false { send o 1; }":            "",
		"while false { }":                      "",
		"while 1 > 2 { send o 1; } x = 2;":     "x = 2;",
		"while !(1 == 1) || 3 != 3 { x = 1; }": "",
		"while true { x = 1; }":                "while true { x = 1; }",
		"while 1 < 2 { x = 1 + 1; }":           "while true { x = 2; }",
		"while true { }":                       "while true { }",
		"while y && false { x = 1; }":          "while y && false { x = 1; }",
		"while release(false to {}) { }":       "while release(false to {}) { }",
		// An If whose E is true.
		"if true { send o 1; }":                         "if true { send o 1; }",
		"if true { send o 1; } else { send o 2; }":      "if true { send o 1; }",
		"if 1 < 2 { send o 1 + 1; } else { send o 2; }": "if true { send o 2; }",
		"if true { }":                    "if true { }",
		"if true { } else { send o 1; }": "if true { }",
		"if true { var z = 1; send o z; } else { var w = 1; }": "if true { var z = 1; send o z; }",
		// An If whose E is false.
		"if false { send o 1; }":                             "",
		"if false { }":                                       "",
		"if 2 < 1 { send o 1; }":                             "",
		"if false { send o 1; } else { send o 2 + 2; }":      "if true { send o 4; }",
		"if false { } else { send o 2; }":                    "if true { send o 2; }",
		"if 2 < 1 { x = 1; } else { var z = 1; x = z; }":     "if true { var z = 1; x = z; }",
		"if y || true { x = 1; } else { x = 2; }":            "if y || true { x = 1; } else { x = 2; }",
		"if release(false to {}) { x = 1; } else { x = 2; }": "if release(false to {}) { x = 1; } else { x = 2; }",
		// What lies within comes first.
		"if false { x = 1; } else { while false { x = 2; } }":                       "",
		"if false { x = 1; } else { if false { x = 2; } }":                          "",
		"if false { x = 1; } else { if false { x = 2; } else { while 1 > 2 { } } }": "",
		"if false { x = 1; } else { if false { x = 2; } else { x = 3; } }":          "if true { if true { x = 3; } }",
		"if false { x = 1; } else { if true { x = 2; } else { x = 3; } }":           "if true { if true { x = 2; } }",
		"if false { x = 1; } else { if true { } }":                                  "if true { if true { } }",
		"if true { while false { } } else { x = 1; }":                               "if true { }",
		"if false { if y { } } else { if y { if false { } } }":                      "if true { if y { } }",
		"while false { if true { x = 1; } }":                                        "",
		"while y { while false { x = 1; } if false { x = 2; } }":                    "while y { }",
		"if y { while false { x = 1; } } else { if false { x = 2; } }":              "if y { }",
		"if y { if false { } else { x = 1; } } else { if false { } x = 2; }":        "if y { if true { x = 1; } } else { x = 2; }",
		"while true { if false { x = 1; } else { x = 2; } while false { x = 3; } }": "while true { if true { x = 2; } }",
		// What stands side by side stays in its order.
		"x = 1; if false { x = 2; } x = 3; while false { x = 4; } x = 5; if false { x = 6; } else { x = 7; } x = 8;": "x = 1; x = 3; x = 5; if true { x = 7; } x = 8;",
		"if false { } while false { } if false { }": "",
	} {
		p, want := read(t, around(s)), read(t, around(want))
		q, f := Program(p)
		if f != (api.Fault{}) || !tree.Same(q, want) {
			t.Errorf("%s: %v, %s", s, f, printed(q))
		}
		if whole(q) != whole(remains(p)) {
			t.Errorf("%s: %v, want %v", s, q, remains(p))
		}
	}
}

// TestProcs: all procedures are folded; nothing else of a program is changed.
func TestProcs(t *testing.T) {
	const s = "proc g(n: int {a:}, m: bool {b:a}): bool {a:;b:} begin {a:} for b, a { while 1 == 2 { } send d 1 + 1; return 1 + n > 2 + 3 && (m || !false); } "
	const want = "proc g(n: int {a:}, m: bool {b:a}): bool {a:;b:} begin {a:} for b, a { send d 2; return 1 + n > 5 && (m || true); } "
	q, f := Program(read(t, house+s+"proc main() for a { if false { do g(1, true); } } "+"proc h(): int {} { return 2 * 2; }"))
	if f != (api.Fault{}) || !tree.Same(q, read(t, house+want+"proc main() for a { } proc h(): int {} { return 4; }")) {
		t.Errorf("%v, %s", f, printed(q))
	}
	// The least that there is.
	p := api.Program{Procs: []api.Proc{{Name: "main", At: 7}}}
	if q, f = Program(p); f != (api.Fault{}) || whole(q) != whole(p) {
		t.Errorf("%v, %v", q, f)
	}
}

// TestDeep: as deep as may be, from within to without.
func TestDeep(t *testing.T) {
	empty := []api.Stmt{{Kind: api.While, E: op("<", num(2), num(1)), A: []api.Stmt{send("o", num(1))}}}
	full := []api.Stmt{send("o", op("+", num(1), num(2)))}
	for range api.MaxDeep - 2 {
		full = []api.Stmt{when(op("!", flag(1)), empty, full)}
		empty = []api.Stmt{when(flag(0), empty, empty)}
	}
	q, f := Program(prog(empty[0], full[0]))
	if f != (api.Fault{}) || count(q) != api.MaxDeep-1 {
		t.Fatalf("%v, %v", q, f)
	}
	l := q.Procs[0].Body
	for range api.MaxDeep - 2 {
		if len(l) != 1 || l[0].E.N != 1 || len(l[0].B) > 0 {
			t.Fatalf("%v", l)
		}
		l = l[0].A
	}
	if len(l) != 1 || whole(l[0]) != whole(send("o", num(3))) {
		t.Errorf("%v", l)
	}
}

// TestMade: made programs are as they are from without; and folding them again changes nothing.
func TestMade(t *testing.T) {
	made, shorter, wrong := 0, 0, 0
	for i := range 3000 {
		m := &maker{thrower: dice(i), shared: i%2 == 0, dry: 1 + i%4, long: []int{4, 5, 6, 8}[i/4%4]}
		p := m.program()
		q, f := Program(p)
		if g := scope.Check(p); f != g {
			t.Fatalf("%d: %v, want %v", i, f, g)
		}
		if f.Code != api.OK {
			wrong++
			continue
		}
		if want := remains(p); whole(q) != whole(want) {
			t.Fatalf("%d: %s, want %s, was %s", i, printed(q), printed(want), printed(p))
		}
		if again, f := Program(q); f.Code != api.OK || whole(again) != whole(q) {
			t.Fatalf("%d: %s, %v, then %s", i, printed(q), f, printed(again))
		}
		made++
		if count(q) < count(p) {
			shorter++
		}
	}
	if made < 1500 || shorter < 750 || wrong < 50 {
		t.Errorf("%d of them, %d are shorter, %d are wrong", made, shorter, wrong)
	}
}

// TestFaults: the fault is chapter 6's, of the program as it stands, though what is wrong would be left out; and all else is zero.
func TestFaults(t *testing.T) {
	for s, want := range map[string]api.Errno{
		"①z = 1;":                                     api.ErrWho,
		"x = ①true;":                                  api.ErrType,
		"while false { x = ①z; }":                     api.ErrWho,
		"if false { ①var x = 1; }":                    api.ErrTwice,
		"if true { } else { send o ①true; }":          api.ErrType,
		"if ①1 { }":                                   api.ErrType,
		"while ①0 { }":                                api.ErrType,
		"if false { ①take x v; } else { x = true; }":  api.ErrType,
		"if false { do ①f(); }":                       api.ErrForm,
		"if false { ①return 1; }":                     api.ErrForm,
		"x = ①release(1 to {c:});":                    api.ErrWho,
		"while false { ①send p 1; }":                  api.ErrWho,
		"if false { x = 1 + 1; } else { ①take z s; }": api.ErrWho,
	} {
		s = around(s)
		at := strings.Index(s, "①")
		p := read(t, strings.Replace(s, "①", "", 1))
		if q, f := Program(p); f != (api.Fault{Code: want, At: at}) || whole(q) != whole(api.Program{}) {
			t.Errorf("%s: %v, %v", s, q, f)
		}
	}
	for what, c := range map[string]struct {
		p    api.Program
		want api.Errno
	}{
		"nothing":       {api.Program{}, api.ErrWho},
		"no main":       {read(t, "proc f() { }"), api.ErrWho},
		"many chiefs":   {api.Program{Chiefs: strings.Fields("a b c d e f g")}, api.ErrMany},
		"one twice":     {read(t, "chief a; chief a; proc main() { }"), api.ErrTwice},
		"long":          {prog(slices.Repeat([]api.Stmt{when(flag(0), nil, nil)}, api.MaxBody+1)...), api.ErrMany},
		"long within":   {prog(when(flag(0), slices.Repeat([]api.Stmt{send("o", num(1))}, api.MaxBody+1), nil)), api.ErrForm},
		"not formed":    {prog(when(flag(0), []api.Stmt{{Kind: 9}}, nil)), api.ErrForm},
		"a Lit":         {prog(when(flag(2), nil, nil)), api.ErrForm},
		"a number":      {prog(send("o", num(-1))), api.ErrForm},
		"a While's B":   {prog(api.Stmt{Kind: api.While, E: flag(0), B: []api.Stmt{send("o", num(1))}}), api.ErrForm},
		"main of a one": {read(t, "proc main(x: int {}) { }"), api.ErrForm},
	} {
		if q, f := Program(c.p); f.Code != c.want || f != scope.Check(c.p) || whole(q) != whole(api.Program{}) {
			t.Errorf("%s: %v, %v", what, q, f)
		}
	}
}

// P13.3

// same: the folded program does what p does, with no more steps: with the fuel that p had it comes at least as far.
func same(t *testing.T, what any, p, q api.Program, in [][]int, fuel int) (one, two api.Trace) {
	t.Helper()
	one, f := run.Program(p, in, fuel)
	two, g := run.Program(q, in, fuel)
	if f != (api.Fault{}) || g != (api.Fault{}) {
		t.Fatalf("%v: %v, %v", what, f, g)
	}
	ahead := view.Begins(one.Events, two.Events)
	if one.Steps < fuel || one.Done {
		// It ended by itself, or within too many calls: so does the folded one.
		ahead = one.Done == two.Done && whole(one.Events) == whole(two.Events)
	}
	if !ahead || two.Steps > one.Steps {
		t.Fatalf("%v, %d: %v, folded %v: %s", what, fuel, one, two, printed(p))
	}
	return one, two
}

// TestRuns: what programs do, with how many steps, and what they do folded.
func TestRuns(t *testing.T) {
	for _, c := range []struct {
		s, in            string
		events, old, new int
	}{
		{"", "", 0, 4, 4},
		{"send o 1 + 2 * 3;", "", 1, 10, 6},
		{"send o x + (1 + 2);", "", 1, 10, 8},
		{"while 1 > 2 { send o 1; }", "", 0, 8, 4},
		{"if 1 < 2 { send o 2; } else { send o 3; }", "", 1, 10, 8},
		{"if false { send o 2; } else { send o 3; }", "", 1, 8, 8},
		{"if false { send o 2; }", "", 0, 6, 4},
		{"if false { send o 2; } else { while false { } }", "", 0, 8, 4},
		{"while x < 1 + 1 { send d x; x = x + (2 - 1); }", "", 2, 36, 26},
		{"take x s; send o f(x * (2 + 3)); send d release(1 + 1 to {b:a});", "s=4", 3, 19, 15},
		{"send o 1 - 2;", "", 1, 8, 8},
	} {
		p := read(t, around(c.s))
		q, f := Program(p)
		if f != (api.Fault{}) {
			t.Fatal(c.s, f)
		}
		in := lists(t, p, c.in)
		one, two := same(t, c.s, p, q, in, 1000)
		if len(one.Events) != c.events || one.Steps != c.old || two.Steps != c.new || !two.Done {
			t.Errorf("%s: %v, folded %v", c.s, one, two)
		}
		for fuel := range c.old + 1 {
			same(t, c.s, p, q, in, fuel)
		}
	}
}

// TestRunsMade: as TestRuns, of made programs, with some fuel and with much.
func TestRunsMade(t *testing.T) {
	runs, less, done, deep := 0, 0, 0, 0
	for i := range 3000 {
		m := &maker{thrower: dice(i), shared: i%2 == 0, dry: 2 + i%3, long: []int{4, 5, 6, 8}[i/4%4]}
		p := m.program()
		q, f := Program(p)
		if f.Code != api.OK {
			continue
		}
		for range 3 {
			in := m.inputs()
			same(t, i, p, q, in, m.roll(60))
			one, two := same(t, i, p, q, in, api.MaxSteps)
			runs++
			if len(one.Events) == 0 {
				continue
			}
			less += map[bool]int{true: 1}[two.Steps < one.Steps]
			done += map[bool]int{true: 1}[one.Done]
			deep += map[bool]int{true: 1}[!one.Done && one.Steps < api.MaxSteps]
		}
	}
	if runs < 4000 || less < 800 || done < 800 || deep < 100 {
		t.Errorf("%d runs; with events: %d with fewer steps, %d to the end, %d within too many calls", runs, less, done, deep)
	}
}

// TestTaken: what chapter 9 takes it takes folded; of what it doesn't take some.
func TestTaken(t *testing.T) {
	for _, c := range []struct {
		s        string
		one, two api.Errno
	}{
		{"take x s; send d x;", api.OK, api.OK},
		{"take x s; send o x;", api.ErrFlow, api.ErrFlow},
		{"take x s; if false { send o x; }", api.ErrFlow, api.OK},
		{"take x s; if true { send d x; } else { send o x; }", api.ErrFlow, api.OK},
		{"take x s; if false { send d x; } else { send o x; }", api.ErrFlow, api.ErrFlow},
		{"take x s; while x > 0 { while 1 > 2 { send o 1; } x = x - 1; }", api.ErrFlow, api.OK},
		{"take x s; while 1 > 2 { x = release(x to {}); }", api.ErrMay, api.OK},
		{"take x s; x = release(x to {b:}); if false { }", api.ErrMay, api.ErrMay},
		{"if true { take x s; } else { send o x; }", api.ErrFlow, api.OK},
		{"var z = 1 + 2; if z > 2 + 2 { take x s; send o z * (1 + 1); }", api.OK, api.OK},
	} {
		p := read(t, around(c.s))
		q, f := Program(p)
		_, one := check.Program(p)
		_, two := check.Program(q)
		if f != (api.Fault{}) || one.Code != c.one || two.Code != c.two {
			t.Errorf("%s: %v, %v, folded %v", c.s, f, one, two)
		}
	}
}

// TestTakenMade: as TestTaken, of made programs.
func TestTakenMade(t *testing.T) {
	taken, shorter, freed := 0, 0, 0
	for i := range 8000 {
		m := &maker{thrower: dice(i), tame: true, shared: i%2 == 0, dry: 2 + i%3, long: []int{4, 5, 6}[i/3%3]}
		p := m.program()
		_, one := check.Program(p)
		q, f := Program(p)
		if f.Code != api.OK {
			continue
		}
		_, two := check.Program(q)
		switch {
		case one.Code == api.OK && two.Code != api.OK:
			t.Fatalf("%d: %v: %s, was %s", i, two, printed(q), printed(p))
		case one.Code == api.OK:
			taken++
			shorter += map[bool]int{true: 1}[count(q) < count(p)]
		case two.Code == api.OK:
			freed++
		}
	}
	if taken < 500 || shorter < 200 || freed < 200 {
		t.Errorf("%d are taken, %d of them are shorter; %d are taken only folded", taken, shorter, freed)
	}
}

// P1 to P3

// TestAny: whatever is handed in.
func TestAny(t *testing.T) {
	formed := 0
	for i := range 20000 {
		d := dice(i)
		for _, x := range d.anyExprs(3) {
			y, code := Expr(x)
			var want api.Expr
			if tree.Formed(x) {
				want = shortened(x)
				formed++
			}
			if (code == api.OK) != tree.Formed(x) || code != api.OK && code != api.ErrForm || whole(y) != whole(want) {
				t.Fatalf("%d: %v: %v, %v", i, x, y, code)
			}
		}
		p := d.anything()
		q, f := Program(p)
		var want api.Program
		if f.Code == api.OK {
			want = remains(p)
		}
		if f != scope.Check(p) || whole(q) != whole(want) {
			t.Fatalf("%d: %v, %v: %v", i, f, q, p)
		}
	}
	if formed < 1000 {
		t.Errorf("%d of them are formed", formed)
	}
}

// TestPrinted: what is printed and read again is folded alike.
func TestPrinted(t *testing.T) {
	read := 0
	for i := range 1000 {
		m := &maker{thrower: dice(i), dry: 2, long: 4}
		p := m.program()
		q, f := Program(p)
		s, code := tree.Print(p)
		r, g := parse.Program(s)
		if f.Code != api.OK || code != api.OK || g.Code != api.OK {
			continue
		}
		read++
		again, f := Program(r)
		if f.Code != api.OK || !tree.Same(q, again) {
			t.Fatalf("%d: %s, then %v, %s", i, printed(q), f, printed(again))
		}
	}
	if read < 400 {
		t.Errorf("%d of them", read)
	}
}

// TestShared: a list that lies in many places is laid anew in each of them.
func TestShared(t *testing.T) {
	l := api.Label{{Owner: "a", Readers: []string{"b"}}}
	args := []api.Expr{v("x"), op("+", num(1), num(2))}
	x := op("-", call("f", args...), release(l, call("f", args...)))
	body := []api.Stmt{send("o", x), {Kind: api.Let, Name: "y", Labelled: true, L: l, E: x}}
	p := prog(api.Stmt{Kind: api.Let, Name: "x", E: num(1)}, when(flag(0), body, body), when(flag(1), body, body), when(op("==", x, x), body, body[:1]), when(flag(1), body[1:], nil))
	p.Chans = append(p.Chans, api.Chan{Name: "q", Type: api.Int, L: l}, api.Chan{Name: "r", Type: api.Int, L: l})
	params := []api.Param{{Name: "x", Type: api.Int, L: l}, {Name: "z", Type: api.Int, L: l}}
	p.Procs = append(p.Procs, api.Proc{Name: "f", Params: params, Result: api.Param{Type: api.Int, L: l}, Begin: l, For: p.Chiefs, Body: []api.Stmt{body[0], body[1], {Kind: api.Return, E: x}}})
	p.Procs = append(p.Procs, api.Proc{Name: "g", Params: params, Begin: l, For: p.Chiefs, Body: body})
	q, f := Program(p)
	if f != (api.Fault{}) || whole(q) != whole(remains(p)) {
		t.Errorf("%v, %s", f, printed(q))
	}
	apart(t, "a program", p, q)
	y, code := Expr(op("==", x, x))
	if code != api.OK || whole(y) != whole(shortened(op("==", x, x))) {
		t.Errorf("%v, %v", y, code)
	}
	apart(t, "an expression", x, y)
}

// TestLarge: lists that lie in so many places that all of them can't be laid one by one.
func TestLarge(t *testing.T) {
	all, kept := op("<", num(1), num(2)), call("f", num(1), op("+", num(1), num(1)))
	want := call("f", num(1), num(2))
	for range api.MaxDeep - 2 {
		all = op("&&", all, all)
	}
	for range api.MaxDeep - 3 {
		kept = call("f", kept, kept, kept, kept)
		want = call("f", want, want, want, want)
	}
	if y, code := Expr(all); code != api.OK || whole(y) != whole(flag(1)) {
		t.Errorf("%v, %v", y, code)
	}
	if y, code := Expr(kept); code != api.OK || !tree.SameExpr(y, want) {
		t.Errorf("a call: %v", code)
	}
	none, some, left := []api.Stmt{}, []api.Stmt{send("o", num(1))}, []api.Stmt{send("o", num(1))}
	for range api.MaxDeep - 1 {
		none = slices.Repeat([]api.Stmt{when(op("!", all.A[0]), none, none), {Kind: api.While, E: flag(0), A: none}}, api.MaxBody/2)
		some = slices.Repeat([]api.Stmt{when(flag(0), some, some)}, api.MaxBody)
		left = slices.Repeat([]api.Stmt{when(flag(1), left, nil)}, api.MaxBody)
	}
	if q, f := Program(prog(none...)); f != (api.Fault{}) || !tree.Same(q, prog()) {
		t.Errorf("nothing is left: %v", f)
	}
	if q, f := Program(prog(some...)); f != (api.Fault{}) || !tree.Same(q, prog(left...)) {
		t.Errorf("something is left: %v", f)
	}
	// Great labels.
	var l api.Label
	for i := range api.MaxPolicies {
		l = append(l, api.Policy{Owner: []string{"a", "b"}[i%2], Readers: []string{"a", "b", "a", "b"}})
	}
	some, left = []api.Stmt{{Kind: api.Let, Name: "x", Labelled: true, L: l, E: op("+", num(1), num(1))}}, nil
	left = append(left, some[0])
	left[0].E = num(2)
	for range api.MaxDeep - 1 {
		some = slices.Repeat([]api.Stmt{when(flag(0), nil, some)}, api.MaxBody)
		left = slices.Repeat([]api.Stmt{when(flag(1), left, nil)}, api.MaxBody)
	}
	var ahead, behind runtime.MemStats
	runtime.ReadMemStats(&ahead)
	q, f := Program(prog(some...))
	runtime.ReadMemStats(&behind)
	if f != (api.Fault{}) || !tree.Same(q, prog(left...)) {
		t.Errorf("labels: %v", f)
	}
	if n := (behind.TotalAlloc - ahead.TotalAlloc) >> 20; n > 200 {
		t.Errorf("labels: %d MiB", n)
	}
}

// TestRings: lists that lie within themselves aren't formed.
func TestRings(t *testing.T) {
	ring := []api.Stmt{when(flag(0), nil, nil)}
	ring[0].A, ring[0].B = ring, ring
	if q, f := Program(prog(ring...)); f != (api.Fault{Code: api.ErrForm}) || whole(q) != whole(api.Program{}) {
		t.Errorf("statements: %v", f)
	}
	loop := []api.Expr{num(1), op("+")}
	loop[1].A = loop
	if q, f := Program(prog(send("o", loop[1]))); f != (api.Fault{Code: api.ErrForm}) || whole(q) != whole(api.Program{}) {
		t.Errorf("an expression: %v", f)
	}
}

// rich has all that an answer could share, and much to fold.
const rich = house + "proc f(n: int {a:;b:}): int {a:;b:} begin {a:} for a, b { var y = n; var z {a:;b:a} = release(y + 2 * 3 to {a:}); take n s; while z > y { if 1 < 2 { var w = release(y to {b:a;a:;b:}); send d w; } else { z = 1; } if false { } else { send d f(-z + (1 + 1)); } } return y + 7 / 0; } proc main() { while false { do f(1); } do f(1 + 1); }"

// TestReadOnly: what is handed in stays as it was, with its spare room.
func TestReadOnly(t *testing.T) {
	for s, want := range map[string]api.Errno{rich: api.OK, rich + "proc f() { }": api.ErrTwice} {
		p := roomy(reflect.ValueOf(read(t, s))).Interface().(api.Program)
		see := func() string { return whole(unfolded(reflect.ValueOf(p)).Interface()) }
		was := see()
		q, f := Program(p)
		again, g := Program(p)
		if f != g || f.Code != want || whole(q) != whole(again) {
			t.Errorf("%v, %v, then %v, %v", q, f, again, g)
		}
		if now := see(); now != was {
			t.Errorf("%s, was %s", now, was)
		}
	}
	for i := range 1000 {
		x := roomy(reflect.ValueOf(dice(i).formed(4))).Interface().(api.Expr)
		see := func() string { return whole(unfolded(reflect.ValueOf(x)).Interface()) }
		was := see()
		if _, code := Expr(x); code != api.OK || see() != was {
			t.Errorf("%d: %v, %s, was %s", i, code, see(), was)
		}
	}
}

// TestNew: what is answered shares no memory with what is handed in, and no two lists of it share any.
func TestNew(t *testing.T) {
	p := read(t, rich)
	q, f := Program(p)
	if f.Code != api.OK || count(q) >= count(p) {
		t.Fatal(f)
	}
	apart(t, "rich", p, q)
	was, first := whole(p), whole(q)
	spoil(reflect.ValueOf(&q).Elem())
	if whole(p) != was {
		t.Error("changed by what is done to the answer")
	}
	if q, _ = Program(p); whole(q) != first {
		t.Errorf("it has been kept: %v", q)
	}
	for i := range 300 {
		m := &maker{thrower: dice(i), shared: i%2 == 0, dry: 2, long: 5}
		p := m.program()
		q, _ := Program(p)
		apart(t, printed(p), p, q)
		x := m.formed(5)
		y, _ := Expr(x)
		apart(t, whole(x), x, y)
	}
}
