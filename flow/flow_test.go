package flow

import (
	"fmt"
	"reflect"
	"slices"
	"strings"
	"testing"
	"unsafe"

	"cloister/api"
	"cloister/label"
	"cloister/parse"
	"cloister/scope"
	"cloister/tree"
)

// house stands ahead of procedures: channels of both types, both ways.
const house = "chief a; chief b; chief c; in i: int {a:}; in j: bool {b:c}; out o: int {a:b}; out p: bool {}; "

// tells: Bounds of a text are told so.
func tells(t *testing.T, s, want string) {
	t.Helper()
	p, at := read(t, s)
	n, places, l, f := Bounds(p)
	if f != (api.Fault{}) || n != len(places) {
		t.Errorf("%s: %d, %v, %v", s, n, places, f)
	}
	if got := lines(places, l, at); got != want {
		t.Errorf("%s:\n%s, want\n%s", s, got, want)
	}
}

// P7.1

// TestStatements: what goes where of each kind of statement.
func TestStatements(t *testing.T) {
	for _, c := range []struct{ s, want string }{
		{"", ""},
		{"①var x = 1;", "0①; ① > 0"},
		{"①var x {} = 1;", "① > {}"},
		{"①var x {a:b} = 1;", "① > {a:b}"},
		{"①var x = 1; ②var y = true;", "0①; 1②; ① > 0; ② > 1"},
		{"①var x = 1; ②var y {b:} = x; ③var z = y; ④var u = x + y + z;", "0①; 1③; 2④; ① > 0; ② 0 > {b:}; ③ {b:} > 1; ④ 0 1 {b:} > 2"},
		{"①var x = 1; ②x = 2;", "0①; ① > 0; ② > 0"},
		{"①var x = 1; ②x = x;", "0①; ① > 0; ② 0 > 0"},
		{"①var x {a:} = 1; ②x = x;", "① > {a:}; ② {a:} > {a:}"},
		{"①var x = 1; ②var y = 2; ③x = y; ④y = x;", "0①; 1②; ① > 0; ② > 1; ③ 1 > 0; ④ 0 > 1"},
		{"①send o 1; ②send p true;", "① > {a:b}; ② > {}"},
		{"①var x = 1; ②send o x;", "0①; ① > 0; ② 0 > {a:b}"},
		{"①var x {c:} = true; ②send p x;", "① > {c:}; ② {c:} > {}"},
		{"①var x = 1; ②take x i;", "0①; ① > 0; ② > {a:}; ② {a:} > 0"},
		{"①var x {c:} = true; ②take x j;", "① > {c:}; ② > {b:c}; ② {b:c} > {c:}"},
		{"if true { }", ""},
		{"if true { } else { } while false { }", ""},
		{"if true { ①send o 1; } else { ②send o 2; }", "① > {a:b}; ② > {a:b}"},
		{"do ①main();", "① > {}"},
		// A call stands where its name does, not where its Do does.
		{"①do main();", " > {}"},
	} {
		tells(t, house+"proc main() { "+c.s+" }", c.want)
	}
}

// TestReached: what is within If and While tells of their E, as deep as they lie, and nothing behind them does.
func TestReached(t *testing.T) {
	for _, c := range []struct{ s, want string }{
		{"①var x = true; if x { ②send o 1; } else { ③send o 2; } ④send o 3;", "0①; ① > 0; ② 0 > {a:b}; ③ 0 > {a:b}; ④ > {a:b}"},
		{"①var x {c:} = true; if x { ②send o 1; } else { ③send o 2; } ④send o 3;", "① > {c:}; ② {c:} > {a:b}; ③ {c:} > {a:b}; ④ > {a:b}"},
		{"①var x = true; while x { ②x = false; } ③x = true;", "0①; ① > 0; ② 0 > 0; ③ > 0"},
		{"①var x = true; if x { ②var y = 1; }", "0①; 1②; ① > 0; ② 0 > 1"},
		{"①var x = true; if x { ②var y {} = 1; ③y = 2; }", "0①; ① > 0; ② 0 > {}; ③ 0 > {}"},
		{"①var x = true; ②var y = 1; if x { ③take y i; }", "0①; 1②; ① > 0; ② > 1; ③ 0 > {a:}; ③ 0 {a:} > 1"},
		{"①var x {c:} = true; ②var y {b:} = 1; if x { ③take y i; }", "① > {c:}; ② > {b:}; ③ {c:} > {a:}; ③ {a:;c:} > {b:}"},
		{"①var x {c:} = true; if x { do ②main(); }", "① > {c:}; ② {c:} > {}"},
		{"①var x = true; ②var y {a:} = 1; while x { if y == 1 { ③send p x; } else { while x == x { ④send p true; } } ⑤send p true; } ⑥send p true;",
			"0①; ① > 0; ② > {a:}; ③ 0 {a:} > {}; ④ 0 {a:} > {}; ⑤ 0 > {}; ⑥ > {}"},
		{"①var x = true; if x { ②var y = x; if y { ③var z = y; if z { ④send p true; } else { ⑤send p true; } } } else { ⑥var y = x; if y { ⑦send p true; } }",
			"0①; 1②; 2③; 3⑥; ① > 0; ② 0 > 1; ③ 0 1 > 2; ④ 0 1 2 > {}; ⑤ 0 1 2 > {}; ⑥ 0 > 3; ⑦ 0 3 > {}"},
		{"①var x = true; ②var y = false; if y { if x { ③send p true; } }", "0①; 1②; ① > 0; ② > 1; ③ 0 1 > {}"},
		// E is said ahead, where it stands.
		{"①var x = true; if ②release(x to {}) { ③send o 1; }", "0①; ① > 0; ② 0 > {} for b,c; ② > {}; ③ > {a:b}"},
		{"①var x = true; if x { while ②release(true to {c:}) { ③send o 1; } }", "0①; ① > 0; ② > {c:} for b,c; ② 0 > {c:}; ③ 0 {c:} > {a:b}"},
	} {
		tells(t, house+"proc main() for b, c { "+c.s+" }", c.want)
	}
}

// TestExpressions: what expressions say, and what goes where in them.
func TestExpressions(t *testing.T) {
	const procs = "proc none() { } proc both(n: int {a:}, m: bool {b:a}): int {c:} begin {a:;b:} { ⑬return n; } proc open(n: int {}): bool {} { ⑭return true; } "
	const rest = "⑬ {a:;b:} > {c:}; ⑭ > {}; "
	for _, c := range []struct{ s, want string }{
		{"①send o 1;", "① > {a:b}"},
		{"①send o x;", "① {c:b} > {a:b}"},
		{"①send o -x;", "① {c:b} > {a:b}"},
		{"①send o x + x;", "① {c:b} > {a:b}"},
		{"①send o x + 1;", "① {c:b} > {a:b}"},
		{"①send o 1 + x;", "① {c:b} > {a:b}"},
		{"①send p x == 1 && y;", "① {b:;c:b} > {}"},
		{"①send p y && !(x == 1);", "① {b:;c:b} > {}"},
		{"①var z = x; ②send p y && (z == x || z == 1);", "0①; ⓪① {c:b} > 0; ② 0 {b:;c:b} > {}"},
		{"do ①none();", "① > {}"},
		{"do ①both(②1, ③true);", "② > {a:}; ③ > {b:a}; ① > {a:;b:}"},
		{"do ①both(②x, ③y);", "② {c:b} > {a:}; ③ {b:} > {b:a}; ① > {a:;b:}"},
		{"①send o ②both(③x, ④y);", "③ {c:b} > {a:}; ④ {b:} > {b:a}; ② > {a:;b:}; ① {c:} > {a:b}"},
		{"①send p ②open(③x);", "③ {c:b} > {}; ② > {}; ① > {}"},
		{"①send o ②both(③both(④x, ⑤y), ⑥open(⑦1));", "④ {c:b} > {a:}; ⑤ {b:} > {b:a}; ③ > {a:;b:}; ③ {c:} > {a:}; ⑦ > {}; ⑥ > {}; ⑥ > {b:a}; ② > {a:;b:}; ① {c:} > {a:b}"},
		{"if y { do ①both(②x, ③y); }", "② {b:;c:b} > {a:}; ③ {b:} > {b:a}; ① {b:} > {a:;b:}"},
		{"if y { ①send p ②open(③1) && ④open(⑤2); }", "③ {b:} > {}; ② {b:} > {}; ⑤ {b:} > {}; ④ {b:} > {}; ① {b:} > {}"},
		{"①send o 1 ②+ ③x;", "① {c:b} > {a:b}"},
		{"①send o ②release(③1 to {});", "② > {} for a,a; ② > {}; ① > {a:b}"},
		{"①send o ②release(x to {a:b});", "② {c:b} > {a:b} for a,a; ② > {a:b}; ① {a:b} > {a:b}"},
		{"if y { ①send o ②release(x to {a:b}); }", "② {c:b} > {a:b} for a,a; ② {b:} > {a:b}; ① {a:b;b:} > {a:b}"},
		{"①send o ②release(③release(x + 1 to {a:}) to {a:b});", "③ {c:b} > {a:} for a,a; ③ > {a:}; ② {a:} > {a:b} for a,a; ② > {a:b}; ① {a:b} > {a:b}"},
		{"①send o ②release(③both(④x, ⑤y) to {a:b});", "④ {c:b} > {a:}; ⑤ {b:} > {b:a}; ③ > {a:;b:}; ② {c:} > {a:b} for a,a; ② > {a:b}; ① {a:b} > {a:b}"},
		{"①send p ②release(③x == ④1 to {}) == (⑤release(⑥y to {c:}) && ⑦open(⑧x));", "② {c:b} > {} for a,a; ② > {}; ⑤ {b:} > {c:} for a,a; ⑤ > {c:}; ⑧ {c:b} > {}; ⑦ > {}; ① {c:} > {}"},
	} {
		c.want = strings.ReplaceAll(c.want, "⓪", rest)
		if !strings.Contains(c.want, rest) {
			c.want = rest + c.want
		}
		// What main does is done in a procedure that has variables whose labels are told.
		tells(t, house+procs+"proc do1(x: int {c:b}, y: bool {b:}) for a, a { "+c.s+" } proc main() { }", c.want)
	}
}

// TestProcs: each procedure begins with its own Begin, Params, For and Result.
func TestProcs(t *testing.T) {
	for _, c := range []struct{ s, want string }{
		{"proc main() { }", ""},
		{"proc main() begin {a:} { ①var x = 1; ②send o x; }", "0①; ① {a:} > 0; ② 0 {a:} > {a:b}"},
		{"proc main() begin {a:} { ①var x {} = 1; do ②main(); }", "① {a:} > {}; ② {a:} > {a:}"},
		{"proc main() begin {a:} { ①send o ②release(③1 to {}); }", "② > {}; ② {a:} > {}; ① {a:} > {a:b}"},
		{"proc main() begin {b:} { ①var x = 1; ②take x i; if x > 1 { ③send o 1; } }", "0①; ① {b:} > 0; ② {b:} > {a:}; ② {a:;b:} > 0; ③ 0 {b:} > {a:b}"},
		{"proc f(n: int {a:;a:}): int {c:} { ①n = n; ②return n; } proc main() { ③var n = f(④1); }",
			"0③; ① {a:} > {a:;a:}; ② {a:} > {c:}; ④ > {a:;a:};  > {}; ③ {c:} > 0"},
		{"proc f(): int {} begin {b:} { ①return 1; } proc main() { ②send o ③f(); }", "① {b:} > {}; ③ > {b:}; ② > {a:b}"},
		{"proc f() begin {b:} { ①var x = 1; } proc g() { ②var x = 2; ③x = 3; } proc main() begin {c:} { ④var y = 1; ⑤var x = 4; ⑥x = y; }",
			"0①; 1②; 2④; 3⑤; ① {b:} > 0; ② > 1; ③ > 1; ④ {c:} > 2; ⑤ {c:} > 3; ⑥ 2 {c:} > 3"},
		{"proc f(x: int {a:}) for a { ①x = ②release(x to {}); } proc g(x: int {b:}) for b, c { ③x = ④release(x to {}); } proc main() { ⑤var x = ⑥release(⑦1 to {}); }",
			"0⑤; ② {a:} > {} for a; ② > {}; ① > {a:}; ④ {b:} > {} for b,c; ④ > {}; ③ > {b:}; ⑥ > {}; ⑥ > {}; ⑤ > 0"},
		{"proc main() { do ①later(②1); } proc later(n: int {a:}) begin {c:} { do ③main(); }", "② > {a:}; ① > {c:}; ③ {c:} > {}"},
		{"proc f(f: bool {a:}): bool {b:} begin {c:} { if f { ①var o = ②f(③f); ④send p o; } ⑤return f; } proc main() { }",
			"0①; ③ {a:;c:} > {a:}; ② {a:;c:} > {c:}; ① {a:;b:;c:} > 0; ④ 0 {a:;c:} > {}; ⑤ {a:;c:} > {b:}"},
	} {
		tells(t, house+c.s, c.want)
	}
}

// TestLabels: what is told goes into a sum Normal, and stands as it is where it is gone to.
func TestLabels(t *testing.T) {
	for _, c := range []struct{ s, want string }{
		{"chief a; chief b; proc main() begin {b:a,a,b;a:b;a:} { ①var x {b:b,a;a:b;a:b} = 1; ②x = x; }", "① {a:;b:a} > {b:b,a;a:b;a:b}; ② {a:;b:a} > {b:b,a;a:b;a:b}"},
		{"chief a; chief b; acts b a; proc main() begin {a:} { ①var x {b:a} = 1; ②send o x; } out o: int {a:;b:};", "① {a:} > {b:a}; ② {b:a} > {a:;b:}"},
		{"chief a; chief b; acts b a; acts a b; out o: int {b:}; proc main() begin {b:} { ①send o 1; ②var x {a:} = 1; ③send o x; }", "① {b:} > {b:}; ② {b:} > {a:}; ③ {a:} > {b:}"},
		{"chief a; chief b; chief c; proc f(x: int {a:b,c}, y: int {a:c;b:}) { ①x = x + y; ②y = y + x; ③x = y; } proc main() { }", "① {a:c;b:} > {a:b,c}; ② {a:c;b:} > {a:c;b:}; ③ {a:c;b:} > {a:b,c}"},
		{"chief a; chief b; in i: int {b:;a:}; proc main() { ①var x = 1; ②take x i; ③var y = ④release(⑤1 to {b:;a:b,b}); }", "0①; 1③; ① > 0; ② > {b:;a:}; ② {a:;b:} > 0; ④ > {b:;a:b,b}; ④ > {b:;a:b,b}; ③ {a:b;b:} > 1"},
		{"chief a; chief b; proc f(x: int {b:;a:}): int {b:a,b;a:a} begin {b:;b:;a:} { ①return x; } proc main() { ②var y = ③f(④1); }", "0②; ① {a:;b:} > {b:a,b;a:a}; ④ > {b:;a:}; ③ > {b:;b:;a:}; ② {a:;b:a} > 0"},
	} {
		tells(t, c.s, c.want)
	}
}

// TestRising: From rises, and has each number once, however they come.
func TestRising(t *testing.T) {
	tells(t, house+"proc main() { ①var x = 1; ②var y = 1; ③var z = 1; ④send o z + x + (y - z) * x; if z > y { if y < x { ⑤send o z; } } }",
		"0①; 1②; 2③; ① > 0; ② > 1; ③ > 2; ④ 0 1 2 > {a:b}; ⑤ 0 1 2 > {a:b}")
	var b strings.Builder
	names := "abcdefghijklmnopqr"
	for _, r := range names {
		fmt.Fprintf(&b, "var %c = 1; ", r)
	}
	s := "proc main() { " + b.String() + "①send o " + strings.Join(strings.Split("rqponmlkji", ""), " + ") + "; }"
	p, at := read(t, house+s)
	n, _, l, f := Bounds(p)
	if n != len(names) || f.Code != api.OK || line(l[n], at) != "① 8 9 10 11 12 13 14 15 16 17 > {a:b}" {
		t.Errorf("%d, %v, %v", n, f, l)
	}
}

// TestFirst: chapter 6's fault, and nothing else.
func TestFirst(t *testing.T) {
	for _, s := range []string{
		"",
		"chief a; chief a; proc main() { }",
		"chief a; acts a b; proc main() { }",
		"in i: int {a:}; proc main() { }",
		"in i: int {}; out i: int {}; proc main() { }",
		"proc f() { } proc f() { } proc main() { }",
		"proc f() for a { } proc main() { }",
		"proc main() { x = 1; }",
		"proc main() { var x = 1; var y = x; y = true; }",
		"proc main() { var x = 1; if true { var x = 1; } }",
		"proc main() { var x = 1; send o x; }",
		"proc main() { var x = 1; take x i; }",
		"proc main() { do f(); }",
		"proc main() { var x = main(); }",
		"proc main() { var x = 1; return x; }",
		"proc main() { var x = release(1 to {a:}); }",
		"proc f(): int {} { } proc main() { }",
		"proc main(x: int {}) { }",
		"proc f() { var x = 1; x = 2; }",
	} {
		p, _ := read(t, s)
		want := scope.Check(p)
		if want.Code == api.OK {
			t.Fatalf("%s: it is right", s)
		}
		refused(t, s, p, want)
	}
	unformed := prog(let("x", num(1)), api.Stmt{Kind: api.Set, Name: "x", E: num(-1)})
	refused(t, "unformed", unformed, api.Fault{Code: api.ErrForm})
	refused(t, "of no kind", prog(api.Stmt{Kind: 9, At: 5}), api.Fault{Code: api.ErrForm})
	refused(t, "many statements", prog(make([]api.Stmt, api.MaxBody+1)...), api.Fault{Code: api.ErrMany})
	long := many(api.MaxBounds + 1)
	long.Procs[0].Body[0].A = append(long.Procs[0].Body[0].A, set("nobody", num(1)))
	refused(t, "wrong, and too many", long, api.Fault{Code: api.ErrWho})
}

// refused: Bounds answers that fault, and nothing else.
func refused(t *testing.T, what string, p api.Program, want api.Fault) {
	t.Helper()
	n, places, l, f := Bounds(p)
	if f != want || n != 0 || len(places) > 0 || len(l) > 0 {
		t.Errorf("%s: %d, %v, %d bounds, %v, want %v", what, n, places, len(l), f, want)
	}
}

// many answers a program with so many bounds, each of a Let, in Ifs of no more than 10.
func many(n int) api.Program {
	var body []api.Stmt
	for i := 0; i < n; i++ {
		if i%100 == 0 {
			body = append(body, when())
		}
		half := &body[len(body)-1]
		if i%10 == 0 {
			half.A = append(half.A, when())
		}
		tenth := &half.A[len(half.A)-1]
		s := let("x"+string(rune('a'+i%10)), num(1))
		s.At = 1000 + i
		tenth.A = append(tenth.A, s)
	}
	return prog(body...)
}

// TestMany: as many bounds as may be, and one more, of each kind.
func TestMany(t *testing.T) {
	for _, n := range []int{1, 10, 399, 400} {
		got, places, l, f := Bounds(many(n))
		if got != n || len(places) != n || len(l) != n || f != (api.Fault{}) || places[n-1] != 1000+n-1 || l[n-1].At != 1000+n-1 || l[n-1].To != n-1 {
			t.Errorf("%d: %d, %d, %d, %v", n, got, len(places), len(l), f)
		}
	}
	for _, n := range []int{401, 402, 500, 1200} {
		refused(t, fmt.Sprint(n), many(n), api.Fault{Code: api.ErrMany, At: 1400})
	}
	for _, c := range []struct {
		s   string
		n   int // how many bounds
		one int // which of them, from 1 on, is at the mark
	}{
		{"①var y = 1;", 1, 1},
		{"①var y {} = 1;", 1, 1},
		{"①x = 1;", 1, 1},
		{"①send o 1;", 1, 1},
		{"①take x i;", 2, 1},
		{"①take x i;", 2, 2},
		{"do ①both(1, true);", 3, 3},
		{"do both(①1, true);", 3, 1},
		{"do both(1, ①true);", 3, 2},
		{"①x = both(1, true);", 4, 4},
		{"x = ①both(1, true);", 4, 3},
		{"x = both(①release(1 to {}), true);", 6, 1},
		{"x = both(①release(1 to {}), true);", 6, 2},
		{"x = both(①release(1 to {}), true);", 6, 3},
		{"x = both(release(1 to {}), ①true);", 6, 4},
		{"if release(true to {}) { ①x = 1; }", 3, 3},
		{"while ①release(true to {}) { x = 1; }", 3, 2},
		{"if true { } else { ①x = 1; }", 1, 1},
	} {
		// So many stand ahead that the one at the mark is just one too many, or just not.
		for more := range c.n + 2 {
			p, at := read(t, house+"proc main() { var x = 1; if true { } "+c.s+" } proc both(n: int {}, m: bool {}): int {} { return n; }")
			p.Procs[0].Body[1] = when(many(api.MaxBounds - c.one + more - 1).Procs[0].Body...)
			// The Let of x is one, and the Return of both comes behind all.
			n, places, l, f := Bounds(p)
			total := api.MaxBounds - c.one + more + c.n + 1
			switch {
			case total <= api.MaxBounds:
				if f != (api.Fault{}) || len(l) != total || n != len(places) {
					t.Errorf("%s, %d: %d, %d, %v", c.s, more, n, len(l), f)
				}
			case more == 1:
				if f.Code != api.ErrMany || at[f.At] != "①" {
					t.Errorf("%s, %d: %v at %s", c.s, more, f, at[f.At])
				}
			case f.Code != api.ErrMany || n != 0 || places != nil || l != nil:
				t.Errorf("%s, %d: %d, %v, %v, %v", c.s, more, n, places, len(l), f)
			}
		}
	}
}

// TestMade holds Bounds against a teller that does it by other means.
func TestMade(t *testing.T) {
	got := map[api.Errno]int{}
	count := 0
	for i := range 3000 {
		m := &maker{thrower: dice(i), shared: i%3 == 0, long: []int{4, 5, 8}[i/3%3]}
		p := m.program()
		n, places, l, f := Bounds(p)
		wantN, wantPlaces, want, wantF := bounds(p)
		if f != wantF || n != wantN || fmt.Sprint(places) != fmt.Sprint(wantPlaces) || fmt.Sprint(l) != fmt.Sprint(want) {
			s, _ := tree.Print(p)
			t.Fatalf("%d: %d, %v, %v, %v,\nwant %d, %v, %v, %v: %s", i, n, places, l, f, wantN, wantPlaces, want, wantF, s)
		}
		got[f.Code]++
		count += len(l)
	}
	if got[api.OK] < 1500 || got[api.ErrMany] < 100 || count < 100000 {
		t.Errorf("%v, %d bounds", got, count)
	}
}

// TestPrinted: what is printed and read again has the same bounds, but for their places.
func TestPrinted(t *testing.T) {
	count := 0
	for i := range 3000 {
		m := &maker{thrower: dice(i), shared: i%3 == 0, long: 4}
		p := m.program()
		s, code := tree.Print(p)
		q, f := parse.Program(s)
		if code != api.OK || f.Code != api.OK {
			continue
		}
		count++
		n, places, l, f := Bounds(p)
		also, others, k, g := Bounds(q)
		if f.Code != g.Code || n != also || len(places) != len(others) || fmt.Sprint(bare(l)) != fmt.Sprint(bare(k)) {
			t.Fatalf("%d: %v, %v: %s", i, f, g, s)
		}
		if !slices.IsSorted(others) || len(slices.Compact(others)) != len(places) {
			t.Fatalf("%d: %v: %s", i, others, s)
		}
		for _, at := range others {
			if !strings.HasPrefix(s[at:], "var ") {
				t.Fatalf("%d: %d isn't where a Let is: %s", i, at, s)
			}
		}
	}
	if count < 1000 {
		t.Errorf("%d of them", count)
	}
}

// bare answers l without places.
func bare(l []api.Bound) []api.Bound {
	l = slices.Clone(l)
	for i := range l {
		l[i].At = 0
	}
	return l
}

// TestShared: a list that lies in many places is walked through in each of them.
func TestShared(t *testing.T) {
	inner := []api.Stmt{let("x", num(1)), set("x", v("y"))}
	inner[0].At, inner[1].At = 5, 6
	p := prog(let("y", num(1)), when(inner...), api.Stmt{Kind: api.If, E: op("==", v("y"), v("y")), A: inner, B: inner})
	p.Procs[0].Body[0].At = 4
	n, places, l, f := Bounds(p)
	want := "0④; 1⑤; 2⑤; 3⑤; ④ > 0; ⑤ > 1; ⑥ 0 > 1; ⑤ 0 > 2; ⑥ 0 > 2; ⑤ 0 > 3; ⑥ 0 > 3"
	if got := lines(places, l, map[int]string{4: "④", 5: "⑤", 6: "⑥"}); n != 4 || f != (api.Fault{}) || got != want {
		t.Errorf("%d, %v, %s, want %s", n, f, got, want)
	}
	quiet := []api.Stmt{when(when()), when()}
	loud := []api.Stmt{quiet[0], quiet[1], set("x", num(1))}
	p = prog(let("x", num(1)), when(quiet...), when(loud...), when(loud[:2]...), when(loud[1:]...))
	if _, _, l, f := Bounds(p); len(l) != 3 || f != (api.Fault{}) {
		t.Errorf("%v, %v", l, f)
	}
	body := []api.Stmt{let("x", num(1)), set("x", v("x"))}
	p = prog(body...)
	p.Procs = append(p.Procs, api.Proc{Name: "f", Begin: api.Label{{Owner: "a"}}, Body: body})
	n, places, l, f = Bounds(p)
	want = "0①; 1①; ① > 0; ① 0 > 0; ① {a:} > 1; ① 1 {a:} > 1"
	if got := lines(places, l, map[int]string{0: "①"}); n != 2 || f != (api.Fault{}) || got != want {
		t.Errorf("%d, %v, %s, want %s", n, f, got, want)
	}
}

// TestForm: L is Normal, From rises, and Into is there only where no number is.
func TestForm(t *testing.T) {
	for i := range 500 {
		m := &maker{thrower: dice(i), long: 5}
		p := m.program()
		_, _, l, f := Bounds(p)
		if f.Code != api.OK {
			continue
		}
		for _, b := range l {
			normal, code := label.Normal(p.Chiefs, p.Acts, b.L)
			if code != api.OK || fmt.Sprint(normal) != fmt.Sprint(b.L) {
				t.Fatalf("%d: %v isn't Normal: %v, %d", i, b.L, normal, code)
			}
			if !slices.IsSorted(b.From) || len(slices.Compact(slices.Clone(b.From))) != len(b.From) {
				t.Fatalf("%d: %v doesn't rise", i, b.From)
			}
			if code := label.Check(p.Chiefs, p.Acts, b.Into); code != api.OK {
				t.Fatalf("%d: %v: %d", i, b.Into, code)
			}
			if b.To != -1 && len(b.Into) > 0 {
				t.Fatalf("%d: %v goes into both", i, b)
			}
		}
	}
}

// P7.2

// TestOwnLet: each label that is looked for is gone into by its own Let, ahead of all else, once for each number.
func TestOwnLet(t *testing.T) {
	count := 0
	for i := range 3000 {
		m := &maker{thrower: dice(i), shared: i%3 == 0, long: 6}
		p := m.program()
		n, places, l, f := Bounds(p)
		if f.Code != api.OK {
			continue
		}
		if n != len(places) {
			t.Fatalf("%d: %d, %v", i, n, places)
		}
		next := 0
		for j, b := range l {
			if b.To == next && b.At == places[next] && len(b.Into) == 0 && len(b.For) == 0 {
				next++
			}
			if b.To >= next || b.To < -1 {
				t.Fatalf("%d: bound %d goes into %d ahead of its Let", i, j, b.To)
			}
			for _, k := range b.From {
				// A variable is there behind its Let.
				if k < 0 || k >= next {
					t.Fatalf("%d: bound %d comes from %d", i, j, k)
				}
			}
		}
		if next != n {
			t.Fatalf("%d: %d of %d labels are gone into by their Lets", i, next, n)
		}
		count += n
	}
	if count < 10000 {
		t.Errorf("%d labels", count)
	}
	tells(t, "proc main() { ①var x = ②main2(③1); } proc main2(n: int {}): int {} { ④return n; }", "0①; ③ > {}; ② > {}; ① > 0; ④ > {}")
}

// P1 to P3

// TestEnds: lists that are shared, or lie within themselves, so that there is more than can be gone through one by one.
func TestEnds(t *testing.T) {
	calls, plain := num(1), op("<", num(1), num(2))
	calls.At = 7
	for range api.MaxDeep - 2 {
		calls = api.Expr{Kind: api.Call, At: 7, Name: "f", A: []api.Expr{calls, calls, calls, calls}}
		plain = op("&&", plain, plain)
	}
	f := api.Proc{Name: "f", Result: api.Param{Type: api.Int}, Body: []api.Stmt{{Kind: api.Return, E: num(1)}}}
	for i := range api.MaxParams {
		f.Params = append(f.Params, api.Param{Name: fmt.Sprint("p", i), Type: api.Int})
	}
	p := prog(api.Stmt{Kind: api.Do, E: calls})
	p.Procs = append(p.Procs, f)
	refused(t, "calls", p, api.Fault{Code: api.ErrMany, At: 7})
	quiet, loud := []api.Stmt{}, []api.Stmt{}
	for range api.MaxDeep - 1 {
		quiet = slices.Repeat([]api.Stmt{{Kind: api.If, E: plain, A: quiet, B: quiet}}, api.MaxBody)
		loud = slices.Repeat([]api.Stmt{{Kind: api.If, E: plain, A: loud, B: loud}}, api.MaxBody-1)
		loud = append(loud, api.Stmt{Kind: api.Do, E: api.Expr{Kind: api.Call, At: 9, Name: "main"}})
	}
	if n, places, l, g := Bounds(prog(quiet...)); n != 0 || len(places) != 0 || len(l) != 0 || g != (api.Fault{}) {
		t.Errorf("quiet: %d, %v, %v, %v", n, places, l, g)
	}
	refused(t, "loud", prog(loud...), api.Fault{Code: api.ErrMany, At: 9})
	refused(t, "too deep", prog(when(loud...)), api.Fault{Code: api.ErrForm})
	ring := []api.Stmt{when()}
	ring[0].A = ring
	refused(t, "within itself", prog(ring...), api.Fault{Code: api.ErrForm})
	x := []api.Expr{op("-")}
	x[0].A = x
	refused(t, "an expression within itself", prog(let("x", x[0])), api.Fault{Code: api.ErrForm})
}

// rich answers a program in which all is that an answer could share.
func rich(t *testing.T) api.Program {
	p, _ := read(t, house+"proc f(x: int {a:b;b:}): int {b:c} begin {c:a,b} for a, b { var y = x; var z {a:c} = release(y + f(x) to {a:b}); while z > y { take x i; send o z; z = f(release(1 to {c:})); } return y + z; } proc main() { do f(1); }")
	return p
}

// TestReadOnly: what is handed in stays as it was, with its spare room.
func TestReadOnly(t *testing.T) {
	p, same := rich(t), rich(t)
	params := make([]api.Param, 5)
	copy(params, p.Procs[0].Params)
	begin := make(api.Label, 4)
	copy(begin, p.Procs[0].Begin)
	by := make([]string, 6)
	copy(by, p.Procs[0].For)
	p.Procs[0].Params, p.Procs[0].Begin, p.Procs[0].For = params[:1], begin[:1], by[:2]
	first := fmt.Sprint(Bounds(p))
	if again := fmt.Sprint(Bounds(p)); again != first {
		t.Errorf("%s, then %s", first, again)
	}
	if !reflect.DeepEqual(p, same) {
		t.Error("changed")
	}
	if !reflect.DeepEqual(params[1:], make([]api.Param, 4)) || !reflect.DeepEqual(begin[1:], make(api.Label, 3)) || !reflect.DeepEqual(by[2:], make([]string, 4)) {
		t.Error("the spare room has changed")
	}
}

// TestNew: what is answered shares no memory with what is handed in, and no two lists of it share any.
func TestNew(t *testing.T) {
	p := rich(t)
	ours := map[unsafe.Pointer]string{}
	pieces(reflect.ValueOf(p), func(at unsafe.Pointer, what string) { ours[at] = what })
	_, places, l, f := Bounds(p)
	if f.Code != api.OK || len(l) < 15 {
		t.Fatal(f, l)
	}
	seen := map[unsafe.Pointer]string{}
	look := func(at unsafe.Pointer, what string) {
		if old := ours[at]; old != "" {
			t.Errorf("%s is that of the program: %s", what, old)
		}
		if old := seen[at]; old != "" {
			t.Errorf("%s is that of another one: %s", what, old)
		}
		seen[at] = what
	}
	pieces(reflect.ValueOf(places), look)
	pieces(reflect.ValueOf(l), look)
	if len(seen) < 50 {
		t.Errorf("%d pieces", len(seen))
	}
	was := fmt.Sprint(Bounds(p))
	for i := range l {
		spoil(&l[i])
	}
	if again := fmt.Sprint(Bounds(p)); again != was {
		t.Error("it has been kept")
	}
}

// spoil changes all of b.
func spoil(b *api.Bound) {
	for i := range b.From {
		b.From[i] = 99
	}
	for _, l := range []api.Label{b.L, b.Into} {
		for i := range l {
			for j := range l[i].Readers {
				l[i].Readers[j] = "spoilt"
			}
			l[i].Owner = "spoilt"
		}
	}
	for i := range b.For {
		b.For[i] = "spoilt"
	}
}

// pieces shows where the lists and names of x lie.
func pieces(x reflect.Value, see func(at unsafe.Pointer, what string)) {
	switch x.Kind() {
	case reflect.String:
		if x.Len() > 0 {
			see(unsafe.Pointer(unsafe.StringData(x.String())), x.String())
		}
	case reflect.Struct:
		for i := range x.NumField() {
			pieces(x.Field(i), see)
		}
	case reflect.Slice:
		for i := range x.Len() {
			pieces(x.Index(i), see)
		}
		// Of a list of names, the first of them has an address of its own.
		if x.Cap() > 0 {
			see(x.UnsafePointer(), fmt.Sprint(x.Type()))
		}
	case reflect.Array:
		for i := range x.Len() {
			pieces(x.Index(i), see)
		}
	}
}
