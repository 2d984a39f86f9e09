package tag

import (
	"math"
	"reflect"
	"slices"
	"strings"
	"testing"
	"unsafe"

	"cloister/api"
	"cloister/check"
	"cloister/label"
	"cloister/parse"
	"cloister/run"
	"cloister/scope"
	"cloister/tree"
)

// house stands ahead of procedures: what comes in at s is a's, at r b's, at t a's for b, at u for all.
const house = "chief a; chief b; chief c; in s: int {a:}; in r: int {b:}; in t: bool {a:b}; in u: int {}; out o: int {}; out q: bool {}; "

// P12.1

// bears: a run of a main with these statements has these events.
func bears(t *testing.T, s, in, want string) {
	t.Helper()
	if !strings.Contains(s, "proc main") {
		s = "proc main() { " + s + " }"
	}
	p := read(t, house+s)
	l := lists(t, p, in)
	tr, f := Program(p, l, api.MaxSteps)
	if f != (api.Fault{}) || !tr.Done || told(tr.Events) != want {
		t.Errorf("%s, %s: %s, %v, %v, want %s", s, in, told(tr.Events), tr.Done, f, want)
	}
	if plain, _ := run.Program(p, l, api.MaxSteps); bare(tr) != bare(plain) {
		t.Errorf("%s, %s: %v, but without labels %v", s, in, tr, plain)
	}
}

// TestExpressions: what expressions bear.
func TestExpressions(t *testing.T) {
	const taken = "var x = 0; var y = 0; var z = true; take x s; take y r; take z t; "
	for _, c := range []struct{ s, want string }{
		{"send o 7;", "o 7 {}"},
		{"send q true;", "q 1 {}"},
		{"send o 1 + 2 * 3;", "o 7 {}"},
		{"send o x;", "o 5 {a:}"},
		{"send o y;", "o 7 {b:}"},
		{"send q z;", "q 1 {a:b}"},
		{"send o -x; send q !z; send o --y;", "o -5 {a:}; q 0 {a:b}; o 7 {b:}"},
		{"send o x + 1; send o 1 + x; send o 1 - (2 - x);", "o 6 {a:}; o 6 {a:}; o 4 {a:}"},
		{"send o x + y; send o y + x; send o x + x;", "o 12 {a:;b:}; o 12 {a:;b:}; o 10 {a:}"},
		// Whatever it comes to.
		{"send o x * 0; send o 0 / x; send o x - x;", "o 0 {a:}; o 0 {a:}; o 0 {a:}"},
		{"send q false && z; send q true || z; send q z || true;", "q 0 {a:b}; q 1 {a:b}; q 1 {a:b}"},
		{"send q x == 5; send q x < y; send q 1 != y; send q z == z;", "q 1 {a:}; q 1 {a:;b:}; q 1 {b:}; q 1 {a:b}"},
		{"send q x == 1 && z; send q y == 1 || z;", "q 0 {a:}; q 1 {a:b;b:}"},
		// What is released bears what its release says, less or more.
		{"send o release(x to {});", "! 5 {}; o 5 {}"},
		{"send o release(x to {b:c});", "! 5 {b:c}; o 5 {b:c}"},
		{"send o release(1 to {a:;b:}) + 1;", "! 1 {a:;b:}; o 2 {a:;b:}"},
		{"send o release(x to {}) + y; send o release(x to {}) + x;", "! 5 {}; o 12 {b:}; ! 5 {}; o 10 {a:}"},
		{"send o release(release(x + y to {b:}) to {c:}) + 1;", "! 12 {b:}; ! 12 {c:}; o 13 {c:}"},
		{"send o release(release(x to {c:}) + y to {});", "! 5 {c:}; ! 12 {}; o 12 {}"},
		{"send q release(z to {c:}) && x == 5;", "! 1 {c:}; q 1 {a:;c:}"},
	} {
		bears(t, taken+c.s, "s=5 r=7 t=1", c.want)
	}
}

// TestStatements: what variables bear, and what it bears that a place is reached.
func TestStatements(t *testing.T) {
	const taken = "var x = 0; var y = 0; var z = true; take x s; take y r; take z t; "
	for _, c := range []struct{ s, want string }{
		// What a variable bears is what was put last, whatever label it was given.
		{"x = 1; send o x; x = y; send o x;", "o 1 {}; o 7 {b:}"},
		{"var v {c:} = 1; send o v; v = x; send o v; v = 2; send o v;", "o 1 {}; o 5 {a:}; o 2 {}"},
		{"var v = x + y; x = 1; y = 2; send o v;", "o 12 {a:;b:}"},
		{"x = x + 1; send o x; x = x - x; send o x;", "o 6 {a:}; o 0 {a:}"},
		{"take x u; send o x; take x r; send o x; take x s; send o x;", "o 3 {}; o 0 {b:}; o 0 {a:}"},
		{"x = release(x to {c:}); send o x;", "! 5 {c:}; o 5 {c:}"},
		// Ifs: both sides, all kinds of statements, and only what is done.
		{"if x == 5 { send o 1; } else { send o 2; } send o 3;", "o 1 {a:}; o 3 {}"},
		{"if x == 6 { send o 1; } else { send o 2; } send o 3;", "o 2 {a:}; o 3 {}"},
		{"if z { send o y; }", "o 7 {a:b;b:}"},
		{"if true { send o 1; send o y; }", "o 1 {}; o 7 {b:}"},
		{"var v = 0; if x == 5 { v = 1; } send o v;", "o 1 {a:}"},
		{"var v = 0; if x == 6 { v = 1; } send o v;", "o 0 {}"},
		{"var v = 0; if x == 6 { v = 1; } else { v = y; } send o v;", "o 7 {a:;b:}"},
		{"var v = y; if x == 6 { } else { y = 1; } send o v; send o y;", "o 7 {b:}; o 1 {a:}"},
		{"if x == 5 { var v = 1; send o v; v = 2; } var v = 3; send o v;", "o 1 {a:}; o 3 {}"},
		{"var v = 1; if x == 5 { take v u; } send o v; take v u; send o v;", "o 3 {a:}; o 4 {}"},
		{"var v = 1; if x == 5 { take v r; } send o v;", "o 0 {a:;b:}"},
		{"var v = x; if y == 7 { v = 1; } send o v;", "o 1 {b:}"},
		{"if x == 5 { send o 1; if y == 7 { send o 2; } send o 3; if z { send o 4; } } send o 5;", "o 1 {a:}; o 2 {a:;b:}; o 3 {a:}; o 4 {a:}; o 5 {}"},
		{"if z { if x == 6 { } else { send o 2; } send o 3; }", "o 2 {a:}; o 3 {a:b}"},
		// A variable that is set within keeps what bore it there.
		{"var v = true; if x == 5 { v = false; } if v { } else { send o 1; }", "o 1 {a:}"},
		// Releases say their own label, wherever they are; what is done with it there says more.
		{"if x == 5 { send o release(y to {b:c}); }", "! 7 {b:c}; o 7 {a:;b:c}"},
		{"if x == 5 { y = release(1 to {}); } send o y;", "! 1 {}; o 1 {a:}"},
		{"if release(x == 5 to {}) { send o 1; }", "! 1 {}; o 1 {}"},
		{"if release(x == 5 to {c:}) { send o 1; send o x; }", "! 1 {c:}; o 1 {c:}; o 5 {a:;c:}"},
	} {
		bears(t, taken+c.s, "s=5 r=7 t=1 u=3,4", c.want)
	}
}

// TestWhiles: what it bears that a While is gone through is found each time.
func TestWhiles(t *testing.T) {
	for _, c := range []struct{ s, in, want string }{
		{"var n = 2; while n > 0 { send o n; n = n - 1; } send o 9;", "", "o 2 {}; o 1 {}; o 9 {}"},
		{"var n = 2; take n s; while n > 0 { send o 1; n = n - 1; } send o 9; send o n;", "s=2", "o 1 {a:}; o 1 {a:}; o 9 {}; o 0 {a:}"},
		{"var n = 2; take n s; while n > 0 { send o 1; } send o 9; send o n;", "", "o 9 {}; o 0 {a:}"},
		// It comes to bear more: what was told ahead doesn't.
		{"var n = 1; while n > 0 { send o n; take n s; } send o 9;", "s=5,6", "o 1 {}; o 5 {a:}; o 6 {a:}; o 9 {}"},
		{"var n = 1; var m = 0; while n > 0 { send o n; take n s; take m r; n = n + m; }", "s=5,-1 r=1,1", "o 1 {}; o 6 {a:;b:}"},
		{"var n = 1; var m = 0; while n > 0 { m = m + 1; take n s; send o m; } send o m;", "s=5", "o 1 {}; o 2 {a:}; o 2 {a:}"},
		// It comes to bear less: what is told behind does, too.
		{"proc f(): bool {} { var n = 0; take n u; var b = true; if n == 1 { take b t; } return b && n < 3; } proc main() { while f() { send o 1; } }", "u=1,2,1,2,3 t=1,1,1", "o 1 {a:b}; o 1 {}; o 1 {a:b}; o 1 {}"},
		{"proc f(n: int {}, x: int {}): bool {} { var z = true; if n == 0 { z = x == 5; } return z && n < 3; } proc main() { var x = 0; take x s; var n = 0; while f(release(n to {}), x) { n = n + 1; send o n; } send o n; }", "s=5",
			"! 0 {}; o 1 {a:}; ! 1 {}; o 2 {a:}; ! 2 {}; o 3 {a:}; ! 3 {}; o 3 {a:}"},
		{"proc f(n: int {}, x: int {}): bool {} { var z = true; if n == 0 { z = x == 5; } return z && n < 3; } proc main() { var x = 0; take x s; var n = 0; while f(release(n to {}), x) { n = release(n + 1 to {}); send o 1; } }", "s=5",
			"! 0 {}; ! 1 {}; o 1 {a:}; ! 1 {}; ! 2 {}; o 1 {}; ! 2 {}; ! 3 {}; o 1 {}; ! 3 {}"},
		// One within another one, and what is called by what is asked.
		{"var n = 1; take n s; var m = 0; take m r; while n > 0 { while m > 0 { send o 1; m = m - 1; } send o 2; n = n - 1; }", "s=1 r=1", "o 1 {a:;b:}; o 2 {a:}"},
		{"proc f(n: int {}): bool {} { send o 1; return n > 0; } proc main() { var n = 0; take n s; while f(n) { send o 2; n = n - 1; } }", "s=1", "o 1 {}; o 2 {a:}; o 1 {}"},
		{"var n = 0; take n s; while release(n > 0 to {c:}) { send o 1; n = n - 1; }", "s=1", "! 1 {c:}; o 1 {c:}; ! 0 {c:}"},
	} {
		bears(t, c.s, c.in, c.want)
	}
}

// TestProcs: what is called bears what is handed on, and that it is called; none of the labels that it was given.
func TestProcs(t *testing.T) {
	for _, c := range []struct{ s, want string }{
		{"proc f(n: int {c:}) { send o n; } proc main() { var x = 0; take x s; do f(x); do f(1); do f(x + 1); }", "o 5 {a:}; o 1 {}; o 6 {a:}"},
		{"proc f(x: int {}, y: int {}): int {} { send o y; send o x; return y; } proc main() { var x = 0; var y = 0; take x s; take y r; send o f(x, y); send o f(y, x); }",
			"o 7 {b:}; o 5 {a:}; o 7 {b:}; o 5 {a:}; o 7 {b:}; o 5 {a:}"},
		{"proc f(): int {c:} begin {b:} { return 1; } proc main() begin {b:} { send o f(); var x {c:} = f(); send o x; }", "o 1 {}; o 1 {}"},
		{"proc f(): int {} { var x = 0; take x s; return x; } proc main() { send o f(); send o f() + 1; send o 2; }", "o 5 {a:}; o 1 {a:}; o 2 {}"},
		{"proc f(n: int {}): int {} { n = 1; return n; } proc main() { var x = 0; take x s; send o f(x); send o x; }", "o 1 {}; o 5 {a:}"},
		{"proc f(n: int {}): int {} { var m = 0; if n == 5 { m = 1; } return m; } proc main() { var x = 0; take x s; send o f(x); send o f(1); send o f(release(x to {c:})); }", "o 1 {a:}; o 0 {}; ! 5 {c:}; o 1 {c:}"},
		// PC goes along, as deep as it is, and not back.
		{"proc f() { send o 1; } proc main() { var x = 0; take x s; do f(); if x == 5 { do f(); } do f(); }", "o 1 {}; o 1 {a:}; o 1 {}"},
		{"proc f() { var y = 0; take y r; if y == 7 { do g(); } do g(); } proc g() { send o 1; } proc main() { var x = 0; take x s; if x == 5 { do f(); send o 2; } do g(); }", "o 1 {a:;b:}; o 1 {a:}; o 2 {a:}; o 1 {}"},
		{"proc f(): int {} { send o 1; return 2; } proc main() { var x = 0; take x s; var y = 0; if x == 5 { y = f(); } send o y; send o f(); }", "o 1 {a:}; o 2 {a:}; o 1 {}; o 2 {}"},
		{"proc f(n: int {}): int {} { send o release(n to {b:}); return n; } proc main() { var x = 0; take x s; if x == 5 { do f(1); } do f(x); }", "! 1 {b:}; o 1 {a:;b:}; ! 5 {b:}; o 5 {b:}"},
		{"proc f(): bool {} { send o 1; return true; } proc main() { var x = 0; take x s; if x == 5 && f() { send o 2; } }", "o 1 {}; o 2 {a:}"},
		// What stands behind arguments hangs on nothing that they asked.
		{"proc f(n: int {}): int {} { if n == 5 { send o 1; } return n; } proc g(n: int {}, m: int {}) { send o m; } proc main() { var x = 0; take x s; do g(f(x), 2); }", "o 1 {a:}; o 2 {}"},
		// A call within itself.
		{"proc main() { var x = 0; take x s; send o x; if x > 0 { do main(); } send o 1; }", "o 5 {a:}; o 0 {a:}; o 1 {a:}; o 1 {}"},
		{"proc down(n: int {}, x: int {}) { send o n; if n > 0 { if x > n { do down(n - 1, x); } } } proc main() { var x = 0; take x s; do down(2, x); }", "o 2 {}; o 1 {a:}; o 0 {a:}"},
		// A name may be that of a variable, a channel, a procedure; each has its own.
		{"proc o(o: int {}): int {} { send o o; take o s; return o; } proc main() { var o = 2; var s = 0; take s r; send o o(s); send o o + o(o); }", "o 7 {b:}; o 5 {a:}; o 2 {}; o 2 {a:}"},
	} {
		bears(t, c.s, "s=5 r=7", c.want)
	}
}

// TestNormal: labels of events are Normal, however they were told.
func TestNormal(t *testing.T) {
	for _, c := range []struct{ s, want string }{
		{"chief b; chief a; in i: int {b:a,b;a:b;a:b}; out o: int {b:;a:;b:}; proc main() { send o 1; var x = 0; take x i; send o x; send o release(1 to {b:b;a:b;a:;b:a}); }",
			"o 1 {}; o 0 {a:b;b:a}; ! 1 {a:;b:}; o 1 {a:;b:}"},
		{"chief a; chief b; chief c; in i: int {a:b,c}; in j: int {a:b}; in k: int {a:c}; out o: int {}; proc main() { var x = 0; var y = 0; var z = 0; take x i; take y j; take z k; send o x; send o x + y; send o x + z; send o y + z; send o z + y + x; }",
			"o 0 {a:b,c}; o 0 {a:b}; o 0 {a:c}; o 0 {a:b;a:c}; o 0 {a:b;a:c}"},
		// b acts for a: what b owns covers what a does.
		{"chief a; chief b; acts b a; in i: int {a:}; in j: int {b:a}; in k: int {b:}; out o: int {}; proc main() { var x = 0; var y = 0; var z = 0; take x i; take y j; take z k; send o x; send o y; send o x + y; send o x + z; send o y + z; send o release(1 to {a:;b:}); send o release(1 to {a:b}); }",
			"o 0 {a:}; o 0 {b:a}; o 0 {b:a}; o 0 {b:}; o 0 {b:}; ! 1 {b:}; o 1 {b:}; ! 1 {a:b}; o 1 {a:b}"},
		// Of two that cover one another the first stays, whichever came first.
		{"chief b; chief a; acts a b; acts b a; in i: int {b:}; in j: int {a:b}; out o: int {}; proc main() { var x = 0; var y = 0; take x i; take y j; send o x; send o y; send o x + y; send o y + x; if y == 0 { send o x; } send o release(1 to {b:;a:;b:}); send o release(2 to {b:}); }",
			"o 0 {b:}; o 0 {a:b}; o 0 {a:b}; o 0 {a:b}; o 0 {a:b}; ! 1 {a:}; o 1 {a:}; ! 2 {b:}; o 2 {b:}"},
		{"chief c; chief b; chief a; acts a b; acts b c; acts c a; in i: int {c:}; in j: int {b:}; out o: int {}; proc main() { var x = 0; var y = 0; take x i; take y j; send o x; send o x + y; if x == 0 { if y == 0 { send o release(1 to {a:c}); } } }",
			"o 0 {c:}; o 0 {b:}; ! 1 {a:c}; o 1 {a:c}"},
	} {
		p := read(t, c.s)
		tr, f := Program(p, make([][]int, len(p.Chans)), 1000)
		if told(tr.Events) != c.want || !tr.Done || f != (api.Fault{}) {
			t.Errorf("%s: %s, %v, want %s", c.s, told(tr.Events), f, c.want)
		}
	}
}

// large answers a program that goes through main again and again, with labels of as many policies as there may be, of so many chiefs as there may be.
func large() api.Program {
	chiefs := six()
	var all, some, long api.Label
	for n := range 6 {
		all = append(all, policies(chiefs, n)...)
	}
	some = slices.Concat(policies(chiefs, 3), policies(chiefs, 4))
	for i := range api.MaxPolicies {
		q := policies(chiefs, 5)[i%6]
		q.Readers = append(slices.Clone(q.Readers), q.Owner)
		slices.Reverse(q.Readers)
		long = append(long, q)
	}
	p := prog(
		api.Stmt{Kind: api.Let, Name: "x", E: release(policies(chiefs, 2), num(1))},
		api.Stmt{Kind: api.While, E: release(long, flag(1)), A: []api.Stmt{
			send("o", release(some, num(2))),
			send("o", op("+", v("x"), release(some, num(3)))),
			{Kind: api.Take, Name: "x", Of: "i"},
			send("o", release(all, v("x"))),
		}},
	)
	p.Chiefs = chiefs
	p.Chans = append(p.Chans, api.Chan{Name: "i", In: true, Type: api.Int, L: policies(chiefs, 3)})
	return p
}

// TestLarge: labels of as many policies as there may be, for as many steps.
func TestLarge(t *testing.T) {
	p := large()
	in := [][]int{nil, {7, 8, 9}}
	tr, f := Program(p, in, api.MaxSteps)
	if f != (api.Fault{}) || tr.Steps != api.MaxSteps || tr.Done || len(tr.Events) < 1200 {
		t.Fatalf("%v, %d steps, %d events", f, tr.Steps, len(tr.Events))
	}
	m := assembled(p)
	want, _ := m.run(in, 60)
	n := len(want.Events)
	if n < 20 || m.most < 192 {
		t.Errorf("%d events, of %d policies", n, m.most)
	}
	for i, e := range want.Events {
		if whole(tr.Events[i]) != whole(e) {
			t.Fatalf("%d: %v, want %v", i, tr.Events[i], e)
		}
	}
	// Each expression has another label.
	chiefs := six()
	all := slices.Concat(policies(chiefs, 1), policies(chiefs, 2), policies(chiefs, 3), policies(chiefs, 4))
	d := dice(1)
	p = prog()
	p.Chiefs = chiefs
	for range api.MaxBody {
		var within []api.Stmt
		for range api.MaxBody {
			x := num(1)
			for range 3 {
				l := slices.DeleteFunc(slices.Clone(all), func(api.Policy) bool { return d.roll(3) == 0 })
				x = op("+", x, release(l, num(1)))
			}
			within = append(within, send("o", x))
		}
		p.Procs[0].Body = append(p.Procs[0].Body, when(within...))
	}
	tr, f = Program(p, make([][]int, 1), api.MaxSteps)
	if f != (api.Fault{}) || tr.Steps != api.MaxSteps || len(tr.Events) < 1000 {
		t.Errorf("%v, %d steps, %d events", f, tr.Steps, len(tr.Events))
	}
	for i, e := range tr.Events {
		if normal := must(label.Normal(chiefs, nil, e.L)); i%100 == 0 && whole(normal) != whole(e.L) {
			t.Errorf("%d: %v isn't Normal", i, e.L)
		}
	}
}

// TestMade holds Program against a machine that does it by other means, and against runs without labels.
func TestMade(t *testing.T) {
	ended, seen := map[string]int{}, map[string]int{}
	events, most := 0, 0
	for i := range 6000 {
		m := &maker{thrower: dice(i), tame: i%2 == 0, shared: i%3 == 0, long: []int{4, 5, 8}[i/3%3]}
		p, in := m.program(), m.inputs()
		fuel := []int{600, 300, 1 + m.roll(80)}[m.roll(3)]
		tr, f := Program(p, in, fuel)
		if check := scope.Check(p); check.Code != api.OK {
			refused(t, "made", p, in, fuel, check)
			continue
		}
		machine := assembled(p)
		want, why := machine.run(in, fuel)
		if f != (api.Fault{}) || whole(tr) != whole(want) {
			s, _ := tree.Print(p)
			t.Fatalf("%d: %s, %v, %v,\nwant %s, %v (%s): %v, %s", i, told(tr.Events), tr.Done, f, told(want.Events), want.Done, why, in, s)
		}
		if plain, _ := run.Program(p, in, fuel); bare(plain) != bare(tr) {
			t.Fatalf("%d: %v, but without labels %v", i, tr, plain)
		}
		ended[why]++
		events += len(tr.Events)
		most = max(most, machine.most)
		for _, e := range tr.Events {
			seen[must(label.Print(e.L))]++
		}
	}
	if ended["done"] < 1000 || ended["fuel"] < 500 || ended["calls"] < 200 || events < 20000 || most < 6 || len(seen) < 200 || seen["{}"] > events/2 {
		t.Errorf("%v, %d events, %d labels, %d of them empty, of up to %d policies", ended, events, len(seen), seen["{}"], most)
	}
}

// TestMoreFuel: with more fuel a run only goes on, and its labels stay.
func TestMoreFuel(t *testing.T) {
	longer := 0
	for i := range 200 {
		m := &maker{thrower: dice(i), long: 6}
		p, in := m.program(), m.inputs()
		before, f := Program(p, in, 0)
		if f.Code != api.OK {
			continue
		}
		for fuel := 1; fuel <= 100; fuel++ {
			tr, f := Program(p, in, fuel)
			n := len(before.Events)
			if f != (api.Fault{}) || tr.Steps > fuel || len(tr.Events) < n || whole(tr.Events[:n]) != whole(before.Events) || before.Done && whole(tr) != whole(before) {
				t.Fatalf("%d, %d: %v, %v, but before %v", i, fuel, tr, f, before)
			}
			if plain, _ := run.Program(p, in, fuel); bare(plain) != bare(tr) {
				t.Fatalf("%d, %d: %v, but without labels %v", i, fuel, tr, plain)
			}
			if len(tr.Events) > n {
				longer++
			}
			before = tr
		}
	}
	if longer < 500 {
		t.Errorf("%d longer", longer)
	}
}

// TestCalls: a call lies within as many others as may be, or one more, which ends the run behind its arguments.
func TestCalls(t *testing.T) {
	const down = "proc down(n: int {}, x: int {}): int {} { var y = 0; if n > 1 { y = down(release(n - 1 to {}), x); } else { y = x; } return y + 1; } proc main() { var x = 0; take x s; send o down("
	for n, done := range map[int]bool{1: true, 28: true, 29: true, 30: false, 31: false} {
		p := read(t, house+down+whole(n)+", x); send o 1; }")
		in := lists(t, p, "s=5")
		tr, f := Program(p, in, api.MaxSteps)
		releases := min(n, 30) - 1
		if f != (api.Fault{}) || tr.Done != done || len(tr.Events) != releases+map[bool]int{true: 2}[done] {
			t.Errorf("%d: %v, %v", n, tr, f)
			continue
		}
		if done && told(tr.Events[releases:]) != "o "+whole(n+5)+" {a:}; o 1 {}" {
			t.Errorf("%d: %s", n, told(tr.Events))
		}
		if plain, _ := run.Program(p, in, api.MaxSteps); bare(plain) != bare(tr) {
			t.Errorf("%d: %v, but without labels %v", n, tr, plain)
		}
	}
}

// refused: Program answers that fault, and nothing else.
func refused(t *testing.T, what string, p api.Program, in [][]int, fuel int, want api.Fault) {
	t.Helper()
	tr, f := Program(p, in, fuel)
	if f != want || len(tr.Events) > 0 || tr.Done || tr.Steps != 0 {
		t.Errorf("%s: %v, %v, want %v", what, tr, f, want)
	}
}

// TestFaults: what is wrong, and what of it is told first.
func TestFaults(t *testing.T) {
	right := read(t, house+"proc main() { send o 1; }")
	twice := read(t, house+"proc main() { var x = 1; var x = 2; }")
	lost := read(t, house+"proc f() { }")
	lone := read(t, house+"proc main() { send o 1; } proc f(): int {} { }")
	stranger := read(t, house+"proc main() { send o release(1 to {d:}); }")
	in, outs, many := make([][]int, 6), make([][]int, 6), make([][]int, 6)
	outs[4], many[3] = []int{1}, make([]int, api.MaxInputs+1)
	for _, c := range []struct {
		what string
		p    api.Program
		in   [][]int
		fuel int
		want api.Fault
	}{
		{"nothing", api.Program{}, nil, 0, api.Fault{Code: api.ErrWho}},
		{"no list", right, nil, 10, api.Fault{Code: api.ErrForm}},
		{"a list too few", right, in[:5], 10, api.Fault{Code: api.ErrForm}},
		{"a list too many", right, make([][]int, 7), 10, api.Fault{Code: api.ErrForm}},
		{"what goes out", right, outs, 10, api.Fault{Code: api.ErrForm}},
		{"many numbers", right, many, 10, api.Fault{Code: api.ErrMany}},
		{"below nothing", right, in, -1, api.Fault{Code: api.ErrRange}},
		{"far below", right, in, math.MinInt, api.Fault{Code: api.ErrRange}},
		{"too much fuel", right, in, api.MaxSteps + 1, api.Fault{Code: api.ErrRange}},
		{"far too much", right, in, math.MaxInt, api.Fault{Code: api.ErrRange}},
		{"lists, then fuel", right, many, -1, api.Fault{Code: api.ErrMany}},
		{"scope, then lists", lost, outs, 10, api.Fault{Code: api.ErrWho}},
		{"scope, then fuel", lost, in, -1, api.Fault{Code: api.ErrWho}},
		{"scope, then all", twice, many, -1, scope.Check(twice)},
		{"a place", twice, in, 10, api.Fault{Code: api.ErrTwice, At: len(house) + len("proc main() { var x = 1; ")}},
		{"what isn't reached", lone, in, 0, api.Fault{Code: api.ErrForm, At: len(house) + len("proc main() { send o 1; } ")}},
		{"a label of somebody else", stranger, in, 0, api.Fault{Code: api.ErrWho, At: len(house) + len("proc main() { send o ")}},
	} {
		refused(t, c.what, c.p, c.in, c.fuel, c.want)
		if _, f := run.Program(c.p, c.in, c.fuel); f != c.want {
			t.Errorf("%s: without labels %v", c.what, f)
		}
	}
	for _, fuel := range []int{0, api.MaxSteps} {
		if tr, f := Program(right, in, fuel); f != (api.Fault{}) || tr.Done != (fuel > 0) {
			t.Errorf("%d: %v, %v", fuel, tr, f)
		}
	}
	many[3] = many[3][1:]
	if tr, f := Program(right, many, 10); f != (api.Fault{}) || !tr.Done {
		t.Errorf("as many numbers as may be: %v, %v", tr, f)
	}
}

// P12.2

// above answers the first event of tr that bears more than its channel's label holds, -1: none does.
func above(p api.Program, tr api.Trace) int {
	return slices.IndexFunc(tr.Events, func(e api.Event) bool {
		i := slices.IndexFunc(p.Chans, func(c api.Chan) bool { return c.Name == e.Chan })
		return i >= 0 && !must(label.Flows(p.Chiefs, p.Acts, e.L, p.Chans[i].L))
	})
}

// TestTaken: of programs that chapter 9 takes no event bears more than its channel's label holds; of others some do.
func TestTaken(t *testing.T) {
	const chans = "chief a; chief b; in s: int {a:}; in r: int {b:}; in u: int {}; out ours: int {a:;b:}; out mine: int {a:}; out board: int {}; "
	for _, c := range []struct {
		s     string
		taken bool
		above int
	}{
		{"proc main() { var x = 0; take x s; send mine x; send ours x; }", true, -1},
		{"proc main() { var x = 0; take x s; send mine 1; send board x; }", false, 1},
		{"proc main() { var x = 0; var y = 0; take x s; take y r; send ours x + y; if x == y { send ours 1; } send board 1; }", true, -1},
		{"proc main() { var x = 0; var y = 0; take x s; take y r; if x == y { send ours 1; send mine 1; } }", false, 1},
		{"proc main() { var x = 0; take x s; if x == 0 { send board 1; } }", false, 0},
		// It would be told if it were reached.
		{"proc main() { var x = 0; take x s; if x == 1 { send board 1; } }", false, -1},
		{"proc main() { var x = 0; take x s; send mine x; x = 1; send board x; }", false, -1},
		{"proc main() for a { var x = 0; take x s; send board release(x to {}); while release(x > 0 to {}) { send board 2; x = x - 1; } }", true, -1},
		{"proc main() for b { var x = 0; take x s; send board release(x to {}); }", false, -1},
		{"proc f(n: int {a:;b:}): int {a:;b:} begin {a:} { send mine 1; return n; } proc main() { var x = 0; var y = 0; take x s; take y r; if x == 0 { send ours f(y); } }", true, -1},
		{"proc f() { send board 1; } proc main() { var x = 0; take x s; if x == 0 { do f(); } }", false, 0},
		{"proc main() { var x = 0; take x s; if x == 0 { take x r; } send ours x; }", false, -1},
		{"acts b a; proc main() { var x = 0; take x s; if x == 0 { take x r; } send ours x; }", true, -1},
		{"acts a b; proc main() { var x = 0; var y = 0; take x s; take y r; send mine x + y; }", true, -1},
		{"acts b a; proc main() { var x = 0; var y = 0; take x s; take y r; send mine x; send mine x + y; }", false, 1},
	} {
		p := read(t, chans+c.s)
		tr, f := Program(p, make([][]int, len(p.Chans)), 1000)
		_, g := check.Program(p)
		if f.Code != api.OK || !tr.Done || (g.Code == api.OK) != c.taken || above(p, tr) != c.above {
			t.Errorf("%s: %s, %v, %v, %d", c.s, told(tr.Events), f, g, above(p, tr))
		}
	}
}

// tight answers p, which chapter 9 takes, with labels of channels that go out and of procedures that hold no more than they must for that, as far as that is found policy by policy.
func tight(p api.Program) api.Program {
	p.Chans, p.Procs = slices.Clone(p.Chans), slices.Clone(p.Procs)
	for i := range p.Chans {
		if !p.Chans[i].In {
			tighten(p, &p.Chans[i].L)
		}
	}
	for i := range p.Procs {
		q := &p.Procs[i]
		q.Params = slices.Clone(q.Params)
		for j := range q.Params {
			tighten(p, &q.Params[j].L)
		}
		tighten(p, &q.Begin)
		tighten(p, &q.Result.L)
	}
	return p
}

// tighten leaves out policies of l, a label of p, and lets more read, as long as p is taken.
func tighten(p api.Program, l *api.Label) {
	try := func(other api.Label) {
		was := *l
		*l = other
		if _, f := check.Program(p); f.Code != api.OK {
			*l = was
		}
	}
	for i := len(*l) - 1; i >= 0; i-- {
		try(slices.Delete(slices.Clone(*l), i, i+1))
	}
	for i := range *l {
		for _, c := range p.Chiefs {
			other := slices.Clone(*l)
			other[i].Readers = append(slices.Clone(other[i].Readers), c)
			try(other)
		}
	}
}

// TestTakenMade: as TestTaken, of made programs whose labels hold no more than they must; and the labels that chapter 9 fills in change nothing.
func TestTakenMade(t *testing.T) {
	taken, events, full, others := 0, 0, 0, 0
	for i := range 20000 {
		if taken == 250 {
			break
		}
		m := &maker{thrower: dice(i), tame: true, shared: i%3 == 0, long: []int{4, 5, 6}[i/3%3]}
		p, in := m.program(), m.inputs()
		_, g := check.Program(p)
		if g.Code != api.OK && g.Code != api.ErrFlow && g.Code != api.ErrMay {
			continue
		}
		tr, f := Program(p, in, 300)
		if f.Code != api.OK {
			t.Fatalf("%d: %v", i, f)
		}
		if g.Code != api.OK {
			others += map[bool]int{true: 1}[above(p, tr) >= 0]
			continue
		}
		sent := slices.DeleteFunc(slices.Clone(tr.Events), func(e api.Event) bool { return e.Chan == "" || len(e.L) == 0 })
		if len(sent) == 0 {
			continue
		}
		taken++
		p = tight(p)
		filled, _ := check.Program(p)
		tr, _ = Program(p, in, 300)
		if k := above(p, tr); k >= 0 {
			s, _ := tree.Print(p)
			t.Fatalf("%d: the event %d of %s bears more than its channel: %v, %s", i, k, told(tr.Events), in, s)
		}
		if again, f := Program(filled, in, 300); f.Code != api.OK || whole(again) != whole(tr) {
			t.Fatalf("%d: %v, %v, but filled %v", i, tr, f, again)
		}
		events += len(sent)
		full += brims(p, tr)
	}
	if taken < 250 || events < 1500 || full < 1000 || others < 50 {
		t.Errorf("%d taken, %d events that bear something, %d of them all that their channel's label holds; %d other programs have some that bear more", taken, events, full, others)
	}
}

// brims answers how many events bear something, and all that their channel's label holds.
func brims(p api.Program, tr api.Trace) int {
	n := 0
	for _, e := range tr.Events {
		i := slices.IndexFunc(p.Chans, func(c api.Chan) bool { return c.Name == e.Chan })
		if i >= 0 && len(e.L) > 0 && must(label.Flows(p.Chiefs, p.Acts, p.Chans[i].L, e.L)) {
			n++
		}
	}
	return n
}

// P1 to P3

// TestAny: whatever is handed in, a call ends, and tells what a run without labels does.
func TestAny(t *testing.T) {
	for i := range 20000 {
		d := dice(i)
		p, in := d.anything()
		fuel := d.roll(40) - 4
		tr, f := Program(p, in, fuel)
		plain, want := run.Program(p, in, fuel)
		if f != want || bare(tr) != bare(plain) {
			t.Fatalf("%d: %v, want %v: %v, %v, %d", i, f, want, p, in, fuel)
		}
	}
}

// TestPrinted: what is printed and read again bears the same.
func TestPrinted(t *testing.T) {
	count := 0
	for i := range 1000 {
		m := &maker{thrower: dice(i), long: 4}
		p, in := m.program(), m.inputs()
		s, code := tree.Print(p)
		q, f := parse.Program(s)
		if code != api.OK || f.Code != api.OK {
			continue
		}
		count++
		one, f := Program(p, in, 200)
		two, g := Program(q, in, 200)
		if f.Code != g.Code || whole(one) != whole(two) {
			t.Fatalf("%d: %v, %v, then %v, %v: %s", i, one, f, two, g, s)
		}
	}
	if count < 400 {
		t.Errorf("%d of them", count)
	}
}

// TestShared: lists that lie in so many places that there is more than can be gone through, or within themselves.
func TestShared(t *testing.T) {
	x := release(nil, num(1))
	for range api.MaxDeep - 2 {
		x = op("+", x, x)
	}
	tr, f := Program(prog(send("o", x)), make([][]int, 1), api.MaxSteps)
	if f != (api.Fault{}) || tr.Done || tr.Steps != api.MaxSteps {
		t.Errorf("an expression: %v, %v", tr, f)
	}
	l := []api.Stmt{send("o", num(3))}
	for range api.MaxDeep - 1 {
		l = slices.Repeat([]api.Stmt{{Kind: api.If, E: op("==", num(1), num(1)), A: l, B: l}}, api.MaxBody)
	}
	if tr, f = Program(prog(l...), make([][]int, 1), api.MaxSteps); f != (api.Fault{}) || tr.Done || tr.Steps != api.MaxSteps || len(tr.Events) < 400 {
		t.Errorf("statements: %d events, %d, %v", len(tr.Events), tr.Steps, f)
	}
	refused(t, "too deep", prog(when(l...)), make([][]int, 1), 10, api.Fault{Code: api.ErrForm})
	ring := []api.Stmt{when()}
	ring[0].A = ring
	refused(t, "within itself", prog(ring...), make([][]int, 1), 10, api.Fault{Code: api.ErrForm})
	loop := []api.Expr{op("-")}
	loop[0].A = loop
	refused(t, "an expression within itself", prog(send("o", loop[0])), make([][]int, 1), 10, api.Fault{Code: api.ErrForm})
	// One list for two channels is taken from twice, and bears the label of each.
	p := read(t, house+"proc main() { var x = 0; take x s; send o x; take x r; send o x; take x s; send o x; }")
	same := []int{4, 5}
	if tr, f = Program(p, [][]int{same, same, nil, nil, nil, nil}, 100); f != (api.Fault{}) || told(tr.Events) != "o 4 {a:}; o 4 {b:}; o 5 {a:}" {
		t.Errorf("one list: %v, %v", tr, f)
	}
}

// rich has all that an answer could share.
const rich = house + "proc f(x: int {a:;b:}): int {a:;b:} begin {a:} for a, b { var y = x; take x s; send o release(y + x to {a:b;b:a,b,c}); if x > 0 { send o y; } return x; } proc main() { var n = 0; while n < 5 { send o f(n); send q release(true to {c:a}); n = n + 1; } }"

// TestReadOnly: what is handed in stays as it was, with its spare room.
func TestReadOnly(t *testing.T) {
	for s, want := range map[string]api.Errno{rich: api.OK, rich + "proc f() { }": api.ErrTwice} {
		p := read(t, s)
		in := roomy(reflect.ValueOf(lists(t, p, "s=4,5,6 r=1 u=7"))).Interface().([][]int)
		p = roomy(reflect.ValueOf(p)).Interface().(api.Program)
		see := func() string {
			return whole(unfolded(reflect.ValueOf(p)).Interface()) + whole(unfolded(reflect.ValueOf(in)).Interface())
		}
		was := see()
		for _, fuel := range []int{api.MaxSteps, 50, -1} {
			tr, f := Program(p, in, fuel)
			again, g := Program(p, in, fuel)
			if f != g || whole(tr) != whole(again) || fuel > 0 && f.Code != want {
				t.Errorf("%v, %v, then %v, %v", tr, f, again, g)
			}
			if now := see(); now != was {
				t.Errorf("%s, was %s", now, was)
			}
		}
	}
}

// TestNew: what is answered shares no memory with what is handed in, and no two lists of it share any.
func TestNew(t *testing.T) {
	p := read(t, rich)
	in := lists(t, p, "s=4,5,6 r=1 u=7")
	ours := map[unsafe.Pointer]string{}
	pieces(reflect.ValueOf([]any{p, in}), func(at unsafe.Pointer, what string) { ours[at] = what })
	tr, f := Program(p, in, api.MaxSteps)
	if f.Code != api.OK || !tr.Done || len(tr.Events) != 28 {
		t.Fatal(f, tr)
	}
	seen := map[unsafe.Pointer]string{}
	pieces(reflect.ValueOf(tr), func(at unsafe.Pointer, what string) {
		if old := ours[at]; old != "" {
			t.Errorf("%s is what was handed in: %s", what, old)
		}
		if old := seen[at]; old != "" {
			t.Errorf("%s is that of another one: %s", what, old)
		}
		seen[at] = what
	})
	if len(seen) < 100 {
		t.Errorf("%d pieces", len(seen))
	}
	was, again := whole(p)+whole(in), whole(tr)
	spoil(reflect.ValueOf(&tr).Elem())
	if whole(p)+whole(in) != was {
		t.Error("changed by what is done to the answer")
	}
	if tr, _ := Program(p, in, api.MaxSteps); whole(tr) != again {
		t.Errorf("it has been kept: %v", tr)
	}
}

// TestOtherPanics: what no runner gave up with isn't taken for the end of a run.
func TestOtherPanics(t *testing.T) {
	if !ends(func() {}) || ends(func() { panic(stop{}) }) {
		t.Error("how a run ends isn't told")
	}
	defer func() {
		if r := recover(); r != "another one" {
			t.Errorf("%v", r)
		}
	}()
	ends(func() { panic("another one") })
	t.Error("it is hidden")
}
