package run

import (
	"fmt"
	"math"
	"reflect"
	"slices"
	"strings"
	"testing"
	"unsafe"

	"cloister/api"
	"cloister/parse"
	"cloister/scope"
	"cloister/tree"
)

// house stands ahead of procedures: channels of both types, both ways.
const house = "chief a; chief b; in i: int {a:}; out o: int {b:a,b;a:b;a:b}; in j: bool {}; out p: bool {}; in k: int {b:}; "

// P10.1

// TestReckon: each sign by hand, and with numbers at which something goes round, or is divided by nothing.
func TestReckon(t *testing.T) {
	for _, c := range []struct {
		sign       string
		a, b, want int
	}{
		{"||", 0, 0, 0}, {"||", 0, 1, 1}, {"||", 1, 0, 1}, {"||", 1, 1, 1}, {"||", 0, -7, 1}, {"||", 2, 0, 1},
		{"&&", 0, 0, 0}, {"&&", 0, 1, 0}, {"&&", 1, 0, 0}, {"&&", 1, 1, 1}, {"&&", 2, 4, 1}, {"&&", -1, 5, 1},
		{"==", 3, 3, 1}, {"==", 3, 4, 0}, {"!=", 3, 3, 0}, {"!=", 3, 4, 1},
		{"<", 3, 4, 1}, {"<", 4, 4, 0}, {"<", -1, 1, 1}, {"<=", 4, 4, 1}, {"<=", 5, 4, 0},
		{">", 4, 3, 1}, {">", 4, 4, 0}, {">", 1, -1, 1}, {">=", 4, 4, 1}, {">=", 4, 5, 0},
		{"<", math.MinInt, math.MaxInt, 1}, {">", math.MinInt, math.MaxInt, 0},
		{"+", 7, 2, 9}, {"-", 7, 9, -2}, {"*", 7, -2, -14},
		{"+", math.MaxInt, 1, math.MinInt}, {"-", math.MinInt, 1, math.MaxInt}, {"*", math.MaxInt, 2, -2}, {"*", math.MinInt, -1, math.MinInt},
		{"/", 7, 2, 3}, {"/", -7, 2, -3}, {"/", 7, -2, -3}, {"/", -7, -2, 3}, {"/", math.MinInt, -1, math.MinInt},
		{"%", 7, 2, 1}, {"%", -7, 2, -1}, {"%", 7, -2, 1}, {"%", -7, -2, -1}, {"%", math.MinInt, -1, 0},
		{"/", 7, 0, 0}, {"%", 7, 0, 0}, {"/", 0, 0, 0}, {"%", 0, 0, 0}, {"/", -7, 0, 0}, {"%", math.MinInt, 0, 0},
	} {
		if n, code := Reckon(c.sign, c.a, c.b); n != c.want || code != api.OK {
			t.Errorf("%d %s %d: %d, %d, want %d", c.a, c.sign, c.b, n, code, c.want)
		}
	}
	edges := []int{0, 1, -1, 2, -2, 3, 7, -7, 10, math.MaxInt, math.MinInt, math.MaxInt - 1, math.MinInt + 1, math.MaxInt32, math.MinInt32, 1 << 31, 3037000500}
	for _, sign := range signs {
		for _, a := range edges {
			for _, b := range edges {
				if n, code := Reckon(sign, a, b); n != reckoned(sign, a, b) || code != api.OK {
					t.Errorf("%d %s %d: %d, %d, want %d", a, sign, b, n, code, reckoned(sign, a, b))
				}
			}
		}
	}
}

// TestReckonWho: what is no sign between two.
func TestReckonWho(t *testing.T) {
	for _, sign := range []string{"", "!", "=", "&", "|", "(", ")", ",", ";", ":", "{", " +", "+ ", "++", "--", "=>", "<>", "===", "+\x00", "a", "true", "release", "\xff", strings.Repeat("+", 5000)} {
		if n, code := Reckon(sign, 7, 2); n != 0 || code != api.ErrWho {
			t.Errorf("%q: %d, %d", sign, n, code)
		}
	}
}

// TestInputs: lists that may come in, and those that may not.
func TestInputs(t *testing.T) {
	in, out := api.Chan{Name: "i", In: true}, api.Chan{Name: "o"}
	most, more := make([]int, api.MaxInputs), make([]int, api.MaxInputs+1)
	for _, c := range []struct {
		chans []api.Chan
		in    [][]int
		want  api.Errno
	}{
		{nil, nil, api.OK},
		{nil, [][]int{}, api.OK},
		{nil, [][]int{nil}, api.ErrForm},
		{[]api.Chan{in}, nil, api.ErrForm},
		{[]api.Chan{in}, [][]int{{1}}, api.OK},
		{[]api.Chan{in}, [][]int{nil}, api.OK},
		{[]api.Chan{in}, [][]int{{}}, api.OK},
		{[]api.Chan{in}, [][]int{{1}, {}}, api.ErrForm},
		{[]api.Chan{in, in}, [][]int{{1}}, api.ErrForm},
		{[]api.Chan{in}, [][]int{most}, api.OK},
		{[]api.Chan{in}, [][]int{more}, api.ErrMany},
		{[]api.Chan{out}, [][]int{nil}, api.OK},
		{[]api.Chan{out}, [][]int{{}}, api.OK},
		{[]api.Chan{out}, [][]int{more[:0]}, api.OK},
		{[]api.Chan{out}, [][]int{{0}}, api.ErrForm},
		{[]api.Chan{out}, [][]int{most}, api.ErrForm},
		{[]api.Chan{out, in, out, in}, [][]int{nil, most, {}, {math.MinInt}}, api.OK},
		// Of one list how many there are comes first; then list by list; and ahead of them how many lists there are.
		{[]api.Chan{out}, [][]int{more}, api.ErrMany},
		{[]api.Chan{out, in}, [][]int{{1}, more}, api.ErrForm},
		{[]api.Chan{in, out}, [][]int{more, {1}}, api.ErrMany},
		{[]api.Chan{in, out}, [][]int{{1}, {1}}, api.ErrForm},
		{[]api.Chan{in, in}, [][]int{more}, api.ErrForm},
		{[]api.Chan{in}, [][]int{more, nil}, api.ErrForm},
		// More channels than a program may have.
		{slices.Repeat([]api.Chan{in}, 50), slices.Repeat([][]int{most}, 50), api.OK},
		{slices.Repeat([]api.Chan{in}, 50), append(slices.Repeat([][]int{most}, 49), more), api.ErrMany},
	} {
		if code := Inputs(api.Program{Chans: c.chans}, c.in); code != c.want {
			t.Errorf("%v, %v: %d, want %d", c.chans, c.in, code, c.want)
		}
	}
}

// P10.2

// does: a run of a main with these statements has these events, and so many steps.
func does(t *testing.T, s, in, want string, steps int) {
	t.Helper()
	if !strings.Contains(s, "proc main") {
		s = "proc main() { " + s + " }"
	}
	p := read(t, house+s)
	tr, f := Program(p, lists(t, p, in), api.MaxSteps)
	if f != (api.Fault{}) || !tr.Done || tr.Steps != steps || told(tr.Events) != want {
		t.Errorf("%s, %s: %s, %v, %d, %v, want %s, %d", s, in, told(tr.Events), tr.Done, tr.Steps, f, want, steps)
	}
}

// o and p: these numbers go out there.
func o(l ...int) string { return at("o", "{b:a,b;a:b;a:b}", l) }

func p(l ...int) string { return at("p", "{}", l) }

func at(name, label string, l []int) string {
	var out []string
	for _, n := range l {
		out = append(out, fmt.Sprint(name, " ", n, " ", label))
	}
	return strings.Join(out, "; ")
}

// TestStatements: what each kind of statement does, and how many steps it is.
func TestStatements(t *testing.T) {
	for _, c := range []struct {
		s, in, want string
		steps       int
	}{
		{"", "", "", 0},
		{"send o 1;", "", o(1), 2},
		{"send p true; send o 2; send p false;", "", p(1) + "; " + o(2) + "; " + p(0), 6},
		{"var x = 5; send o x; x = 6; send o x;", "", o(5, 6), 8},
		{"var x {a:} = 5; x = x + x; send o x;", "", o(10), 8},
		{"var x = 1; var y = x; x = 2; send o x; send o y;", "", o(2, 1), 10},
		{"if true { send o 1; } else { send o 2; } send o 3;", "", o(1, 3), 6},
		{"if false { send o 1; } else { send o 2; } send o 3;", "", o(2, 3), 6},
		{"if false { send o 1; }", "", "", 2},
		{"if true { } else { send o 1; }", "", "", 2},
		{"while false { send o 1; }", "", "", 2},
		// E is reckoned each time, the While itself is begun once.
		{"var x = 2; while x > 0 { send o x; x = x - 1; }", "", o(2, 1), 2 + 1 + 3*3 + 2*(2+4)},
		{"var x = true; while x { x = false; }", "", "", 2 + 1 + 2 + 2},
		// Variables of a block are there to its end, and made anew each time.
		{"var n = 0; while n < 3 { var x = n; x = x * 10; send o x; n = n + 1; } var x = 7; send o x;", "", o(0, 10, 20, 7), 2 + 1 + 4*3 + 3*(2+4+2+4) + 4},
		{"if true { var x = 1; send o x; } else { var x = 2; } if false { var x = 3; } else { var x = 4; send o x; } var x = 5; send o x;", "", o(1, 4, 5), 16},
		{"var x = 1; if true { x = 2; if true { x = x + 1; } } send o x;", "", o(3), 2 + 2 + 2 + 2 + 4 + 2},
		{"var x = 1; if true { var y = 2; x = y; } var z = 3; var y = 4; send o x; send o y; send o z;", "", o(2, 4, 3), 2 + 2 + 4 + 4 + 6},
		// Takes.
		{"var x = 9; take x i; send o x;", "i=4", o(4), 5},
		{"var x = 9; take x i; send o x;", "k=4", o(0), 5},
		{"var x = 9; take x i; send o x; take x i; send o x; take x i; send o x; take x i; send o x;", "i=-4,8", o(-4, 8, 0, 0), 14},
		{"var x = 9; take x i; send o x; take x k; send o x; take x i; send o x; take x k; send o x;", "i=1,2,3 k=7,8,9", o(1, 7, 2, 8), 14},
		{"var x = 9; take x i; send o x;", "i=9223372036854775807", o(math.MaxInt), 5},
		{"var x = true; take x j; send p x; take x j; send p x; take x j; send p x; take x j; send p x; take x j; send p x;", "j=0,1,2,-1", p(0, 1, 1, 1, 0), 17},
		{"var x = true; take x j; if x { send o 1; } else { send o 2; } send p !x;", "j=5", o(1) + "; " + p(0), 2 + 1 + 2 + 2 + 3},
		{"var x = 1; while x != 0 { take x i; send o x; }", "i=3,2,1", o(3, 2, 1, 0), 2 + 1 + 5*3 + 4*3},
	} {
		does(t, c.s, c.in, c.want, c.steps)
	}
}

// TestExpressions: what expressions come to, in which order, and how many steps they are.
func TestExpressions(t *testing.T) {
	const one = "! 1 {}; ! 2 {a:}; "
	for _, c := range []struct {
		s, want string
		steps   int
	}{
		{"send o 0;", o(0), 2},
		{"send o 999999999;", o(999999999), 2},
		{"send o -5;", o(-5), 3},
		{"send o --5;", o(5), 4},
		{"send o 2 - -5;", o(7), 5},
		{"send p !true; send p !false; send p !!true;", p(0, 1, 1), 10},
		{"send o 1 + 2 * 3 - 8 / 3 % 2;", o(7), 1 + 11},
		{"send o (1 + 2) * 3;", o(9), 6},
		{"send o 7 - 2 - 1;", o(4), 6},
		{"send o 7 / 0; send o 7 % 0;", o(0, 0), 8},
		{"send o -7 / 2; send o -7 % 2;", o(-3, -1), 10},
		{"send o 999999999 * 999999999 * 999999999;", o(reckoned("*", reckoned("*", 999999999, 999999999), 999999999)), 6},
		{"send p 1 < 2; send p 2 <= 1; send p 1 == 1; send p true != true; send p false == false;", p(1, 0, 1, 0, 1), 20},
		{"send p true && false || true;", p(1), 6},
		// Both are reckoned, whatever the left one says.
		{"send p release(false to {}) && release(true to {a:});", "! 0 {}; ! 1 {a:}; " + p(0), 6},
		{"send p release(true to {}) || release(false to {a:});", "! 1 {}; ! 0 {a:}; " + p(1), 6},
		{"send o release(1 to {}) - release(2 to {a:});", one + o(-1), 6},
		{"send o release(1 to {}) + release(2 to {a:}) * release(3 to {b:a});", one + "! 3 {b:a}; " + o(7), 9},
		// What is within is released first; labels stay as they stand.
		{"send o release(release(1 to {}) + 1 to {a:});", one + o(2), 6},
		{"send o -release(4 to {b:a,b;a:b;a:b});", "! 4 {b:a,b;a:b;a:b}; " + o(-4), 4},
		{"var x = release(4 to {}); x = release(x + 1 to {b:});", "! 4 {}; ! 5 {b:}", 3 + 5},
		{"if release(true to {}) { send o 1; }", "! 1 {}; " + o(1), 3 + 2},
		{"var x = 2; while release(x > 0 to {b:}) { x = x - 1; }", "! 1 {b:}; ! 1 {b:}; ! 0 {b:}", 2 + 1 + 3*4 + 2*4},
	} {
		does(t, c.s, "", c.want, c.steps)
	}
}

// TestProcs: what is called has variables of its own, and gives something back.
func TestProcs(t *testing.T) {
	for _, c := range []struct {
		s, in, want string
		steps       int
	}{
		{"proc f() { } proc main() { do f(); }", "", "", 2},
		{"proc f() { send o 1; } proc main() { do f(); do f(); send o 2; }", "", o(1, 1, 2), 10},
		{"proc main() { do f(); } proc f() { do g(); send o 2; } proc g() { send o 1; }", "", o(1, 2), 8},
		{"proc f(): int {} { return 3; } proc main() { send o f() + f(); }", "", o(6), 1 + 1 + 2*(1+2)},
		{"proc f(): bool {} { return false; } proc main() { if f() { send o 1; } else { send o 2; } }", "", o(2), 1 + 3 + 2},
		// What a Do gives back goes nowhere.
		{"proc f(): int {} { send o 1; return 3; } proc main() { do f(); }", "", o(1), 2 + 4},
		{"proc f(x: int {}, y: int {}): int {} { return x - y; } proc main() { send o f(5, 3); send o f(3, 5); }", "", o(2, -2), 2 * (1 + 3 + 4)},
		{"proc f(a1: int {}, b1: bool {}, c1: int {}, d1: bool {}) { send o a1; send p b1; send o c1; send p d1; } proc main() { do f(1, true, 2, false); }", "",
			o(1) + "; " + p(1) + "; " + o(2) + "; " + p(0), 2 + 4 + 8},
		// Params are set in what is called alone.
		{"proc f(x: int {}): int {} { x = x + 1; return x; } proc main() { var x = 5; var y = f(x); send o x; send o y; }", "", o(5, 6), 2 + 3 + 6 + 4},
		{"proc f(y: int {}) { var x = y * 2; send o x; y = 0; } proc main() { var x = 5; var y = 6; do f(x); send o x; send o y; do f(y); }", "", o(10, 5, 6, 12), 4 + 3 + 8 + 4 + 3 + 8},
		{"proc f(x: int {}) { take x i; send o x; } proc main() { var x = 1; do f(x); send o x; take x i; send o x; }", "i=7,8", o(7, 1, 8), 2 + 3 + 3 + 2 + 3},
		// Arguments from the left, then what is called.
		{"proc f(x: int {}, y: int {}): int {} { send o x * 10 + y; return x + y; } proc main() { send o f(f(1, 2), release(f(3, 4) to {})); }", "",
			o(12, 34) + "; ! 7 {}; " + o(37, 10), 1 + 1 + (3 + 10) + 1 + (3 + 10) + 10},
		{"proc f(): int {} { var x = 0; take x i; return x; } proc main() { send o f() - f(); }", "i=5,3", o(2), 1 + 1 + 2*(1+2+1+2)},
		// A call within itself.
		{"proc fac(n: int {}): int {} { var x = 1; if n > 1 { x = n * fac(n - 1); } return x; } proc main() { send o fac(5); }", "", o(120), 2 + 1 + 5*(2+4+2) + 4*(1+2+1+3)},
		{"proc even(n: int {}): bool {} { var x = true; if n != 0 { x = odd(n - 1); } return x; } proc odd(n: int {}): bool {} { var x = false; if n != 0 { x = even(n - 1); } return x; } proc main() { send p even(6); send p odd(6); }", "",
			p(1, 0), 2 * (2 + 1 + 7*(2+4+2) + 6*(1+1+3))},
		{"proc main() { var x = 0; take x i; send o x; if x > 0 { do main(); } send o x; }", "i=2,1", o(2, 1, 0, 0, 1, 2), 3*(2+1+2+4+2) + 2*2},
		// A name may be that of a variable, a channel, a procedure.
		{"proc o(o: int {}): int {} { send o o; return o + 1; } proc main() { var main = 3; var i = o(main); take main i; send o i + main; }", "i=10", o(3, 14), 2 + 1 + 2 + 6 + 1 + 4},
	} {
		does(t, c.s, c.in, c.want, c.steps)
	}
}

// TestLabels: events have labels as they stand, whoever acts for whom, and channels of one label their own names.
func TestLabels(t *testing.T) {
	p := read(t, "chief b; chief a; acts a b; acts b a; out y: int {b:;a:;b:}; out x: int {b:;a:;b:}; out z: bool {a:a,b,a}; proc main() begin {a:} for a { var s {b:} = release(1 to {a:;b:;a:}); send x s; send y 2; send z true; send z release(false to {}); }")
	tr, f := Program(p, make([][]int, 3), 100)
	want := "! 1 {a:;b:;a:}; x 1 {b:;a:;b:}; y 2 {b:;a:;b:}; z 1 {a:a,b,a}; ! 0 {}; z 0 {a:a,b,a}"
	if got := told(tr.Events); got != want || f != (api.Fault{}) {
		t.Errorf("%s, %v, want %s", got, f, want)
	}
	// As many policies as there may be.
	long := make(api.Label, api.MaxPolicies)
	for i := range long {
		long[i] = api.Policy{Owner: []string{"a", "b"}[i%2], Readers: slices.Repeat([]string{"b"}, api.MaxChiefs)}
	}
	p.Chans[1].L = long
	p.Procs[0].Body[0].E.L = long
	tr, f = Program(p, make([][]int, 3), 100)
	if f != (api.Fault{}) || !tr.Done || whole(tr.Events[0].L) != whole(long) || whole(tr.Events[1].L) != whole(long) {
		t.Errorf("%v, %v", f, tr)
	}
}

// TestFuel: a run ends ahead of the step for which there is no fuel, wherever that is; what happened ahead of it stays.
func TestFuel(t *testing.T) {
	for _, c := range []struct{ s, want string }{
		// How many events there are with 0 steps, 1, 2, ..
		{"", "0"},
		{"send o 1;", "001"},
		{"send o 1 + 2; send o -1;", "0000111" + "2"},
		{"send o release(1 to {}); send o 2;", "000" + "2" + "2" + "3"},
		{"send o release(release(1 to {}) to {}) + release(2 to {});", "00000" + "2" + "2" + "4"},
		{"var x = 1; send o x; x = 2; send o x;", "000011112"},
		{"var x = 1; take x i; send o x;", "000001"},
		{"if true { send o 1; } else { send o 2; } send o 3;", "0000112"},
		{"if false { send o 1; } else { send o 2; } send o 3;", "0000112"},
		{"var x = true; while x { send o 1; x = false; } send o 2;", "000000" + "11111" + "2"},
		{"while release(false to {}) { } send o 1;", "000" + "1" + "1" + "2"},
		{"proc f(x: int {}, y: int {}) { send o x; send o y; } proc main() { do f(1, 2); send o 3; }", "0000001122" + "3"},
		{"proc f(x: int {}): int {} { send o x; return x; } proc main() { send o f(release(1 to {})); }", "0000" + "1" + "122" + "3"},
	} {
		s := c.s
		if !strings.Contains(s, "proc main") {
			s = "proc main() { " + s + " }"
		}
		p := read(t, house+s)
		in := lists(t, p, "i=5")
		whole, f := Program(p, in, api.MaxSteps)
		if f != (api.Fault{}) || !whole.Done || whole.Steps != len(c.want)-1 {
			t.Errorf("%s: %v, %v, want %d steps", s, whole, f, len(c.want)-1)
			continue
		}
		for fuel, r := range c.want {
			tr, f := Program(p, in, fuel)
			if n := int(r - '0'); f != (api.Fault{}) || len(tr.Events) != n || tr.Steps != fuel || tr.Done != (fuel == whole.Steps) {
				t.Errorf("%s, %d: %v, %v, want %d events", s, fuel, tr, f, n)
			}
		}
	}
}

// TestEndless: runs that have no end of their own.
func TestEndless(t *testing.T) {
	for _, c := range []struct {
		s      string
		fuel   int
		events int
	}{
		{"while true { }", 0, 0},
		{"while true { }", 1, 0},
		{"while true { }", api.MaxSteps, 0},
		{"while true { send o 1; }", api.MaxSteps, (api.MaxSteps - 1) / 3},
		{"while true { while true { } }", api.MaxSteps, 0},
		{"while release(true to {}) { }", api.MaxSteps, (api.MaxSteps - 1) / 2},
		{"var x = 0; while x < 1 { take x i; if x > 0 { x = 0; } }", api.MaxSteps, 0},
	} {
		p := read(t, house+"proc main() { "+c.s+" }")
		tr, f := Program(p, make([][]int, len(p.Chans)), c.fuel)
		if f != (api.Fault{}) || tr.Done || tr.Steps != c.fuel || len(tr.Events) != c.events {
			t.Errorf("%s, %d: %d events, %v, %d, %v, want %d", c.s, c.fuel, len(tr.Events), tr.Done, tr.Steps, f, c.events)
		}
	}
}

// TestCalls: a call lies within as many others as may be, or one more, which ends the run, whatever the fuel.
func TestCalls(t *testing.T) {
	const down = "proc down(n: int {}): int {} { send o n; var x = 0; if n > 1 { x = down(n - 1); } return x + 1; } "
	for _, c := range []struct {
		s      string
		done   bool
		events int
		last   int
		steps  int
	}{
		// main is one, so that 29 lie within it.
		{down + "proc main() { send o down(29); }", true, 30, 29, 1 + 2 + 29*(2+2+4+4) + 28*(1+1+3)},
		// The arguments of the one too many are reckoned.
		{down + "proc main() { send o down(30); }", false, 29, 2, 1 + 2 + 29*(2+2+4) + 29*(1+1+3)},
		{down + "proc main() { do go1(); } proc go1() { send o down(28); }", true, 29, 28, 2 + 1 + 2 + 28*(2+2+4+4) + 27*(1+1+3)},
		{down + "proc main() { do go1(); } proc go1() { send o down(29); }", false, 28, 2, 2 + 1 + 2 + 28*(2+2+4) + 28*(1+1+3)},
		{"proc main() { send o 7; do main(); }", false, 30, 7, 30 * 4},
		{"proc main() { do main(); send o 7; }", false, 0, 0, 30 * 2},
		{"proc f(n: int {}): int {} { send o n; return f(release(n + 1 to {})); } proc main() { do f(1); }", false, 29 * 2, 30, 3 + 29*(2+1+1+4)},
		// Arguments don't lie within the call that they are for, nor what stands behind another one.
		{"proc f(n: int {}): int {} { return n + 1; } proc main() { send o " + strings.Repeat("f(", 11) + "0" + strings.Repeat(")", 11) + "; }", true, 1, 11, 1 + 11 + 1 + 11*4},
		{down + "proc main() { send o down(29) + down(29); do f(down(28)); } proc f(n: int {}) { send o down(28); }", true, 116, 28, -1},
		{"proc f() { } proc main() { var n = 0; while n < 100 { do f(); n = n + 1; } send o n; }", true, 1, 100, -1},
	} {
		p := read(t, house+c.s)
		in := make([][]int, len(p.Chans))
		tr, f := Program(p, in, api.MaxSteps)
		if f != (api.Fault{}) || tr.Done != c.done || len(tr.Events) != c.events || c.steps >= 0 && tr.Steps != c.steps {
			t.Errorf("%s: %d events, %v, %d, %v, want %d, %v, %d", c.s, len(tr.Events), tr.Done, tr.Steps, f, c.events, c.done, c.steps)
			continue
		}
		if c.events > 0 && tr.Events[c.events-1].N != c.last {
			t.Errorf("%s: %v, want %d at last", c.s, tr.Events[c.events-1], c.last)
		}
		if again, _ := Program(p, in, tr.Steps); whole(again) != whole(tr) {
			t.Errorf("%s: with %d fuel: %v", c.s, tr.Steps, again)
		}
	}
}

// refused: Program answers that fault, and nothing else.
func refused(t *testing.T, what string, p api.Program, in [][]int, fuel int, want api.Fault) {
	t.Helper()
	tr, f := Program(p, in, fuel)
	if f != want || len(tr.Events) > 0 || tr.Done || tr.Steps != 0 {
		t.Errorf("%s: %v, %v, want %v", what, tr, f, want)
	}
}

// TestFaults: what is wrong, and what of it is told first.
func TestFaults(t *testing.T) {
	right := read(t, house+"proc main() { send o 1; }")
	twice := read(t, house+"proc main() { var x = 1; var x = 2; }")
	lost := read(t, house+"proc f() { }")
	lone := read(t, house+"proc main() { send o 1; } proc f(): int {} { }")
	in, outs, many := make([][]int, 5), make([][]int, 5), make([][]int, 5)
	outs[1], many[4] = []int{1}, make([]int, api.MaxInputs+1)
	for _, c := range []struct {
		what string
		p    api.Program
		in   [][]int
		fuel int
		want api.Fault
	}{
		{"nothing", api.Program{}, nil, 0, api.Fault{Code: api.ErrWho}},
		{"no list", right, nil, 10, api.Fault{Code: api.ErrForm}},
		{"a list too few", right, in[:4], 10, api.Fault{Code: api.ErrForm}},
		{"a list too many", right, make([][]int, 6), 10, api.Fault{Code: api.ErrForm}},
		{"what goes out", right, outs, 10, api.Fault{Code: api.ErrForm}},
		{"many numbers", right, many, 10, api.Fault{Code: api.ErrMany}},
		{"below nothing", right, in, -1, api.Fault{Code: api.ErrRange}},
		{"far below", right, in, math.MinInt, api.Fault{Code: api.ErrRange}},
		{"too much fuel", right, in, api.MaxSteps + 1, api.Fault{Code: api.ErrRange}},
		{"far too much", right, in, math.MaxInt, api.Fault{Code: api.ErrRange}},
		{"lists, then fuel", right, many, -1, api.Fault{Code: api.ErrMany}},
		{"scope, then lists", lost, outs, 10, api.Fault{Code: api.ErrWho}},
		{"scope, then fuel", lost, in, -1, api.Fault{Code: api.ErrWho}},
		{"scope, then all", twice, many, -1, scope.Check(twice)},
		{"a place", twice, in, 10, api.Fault{Code: api.ErrTwice, At: len(house) + len("proc main() { var x = 1; ")}},
		{"what isn't reached", lone, in, 0, api.Fault{Code: api.ErrForm, At: len(house) + len("proc main() { send o 1; } ")}},
	} {
		refused(t, c.what, c.p, c.in, c.fuel, c.want)
	}
	for _, fuel := range []int{0, api.MaxSteps} {
		if tr, f := Program(right, in, fuel); f != (api.Fault{}) || tr.Done != (fuel > 0) {
			t.Errorf("%d: %v, %v", fuel, tr, f)
		}
	}
	// What no label allows is run, too: that is chapter 9's.
	p := read(t, "chief a; in i: int {a:}; out o: int {}; proc main() { var x = 0; take x i; send o x; send o release(x to {}); }")
	if tr, f := Program(p, [][]int{{7}, nil}, 100); told(tr.Events) != "o 7 {}; ! 7 {}; o 7 {}" || f != (api.Fault{}) {
		t.Errorf("%v, %v", tr, f)
	}
}

// TestMade holds Program against a machine that does it by other means.
func TestMade(t *testing.T) {
	ended := map[string]int{}
	events := 0
	for i := range 6000 {
		m := &maker{thrower: dice(i), shared: i%3 == 0, long: []int{4, 5, 8}[i/3%3]}
		p, in := m.program(), m.inputs()
		fuel := []int{api.MaxSteps, 300, 1 + m.roll(80)}[m.roll(3)]
		tr, f := Program(p, in, fuel)
		if check := scope.Check(p); check.Code != api.OK {
			refused(t, "made", p, in, fuel, check)
			continue
		}
		want, why := assembled(p).run(in, fuel)
		if f != (api.Fault{}) || whole(tr) != whole(want) {
			s, _ := tree.Print(p)
			t.Fatalf("%d: %v, %v,\nwant %v (%s): %v, %s", i, tr, f, want, why, in, s)
		}
		ended[why]++
		events += len(tr.Events)
	}
	if ended["done"] < 1000 || ended["fuel"] < 500 || ended["calls"] < 200 || events < 50000 {
		t.Errorf("%v, %d events", ended, events)
	}
}

// TestPrinted: what is printed and read again does the same.
func TestPrinted(t *testing.T) {
	count := 0
	for i := range 1000 {
		m := &maker{thrower: dice(i), long: 4}
		p, in := m.program(), m.inputs()
		s, code := tree.Print(p)
		q, f := parse.Program(s)
		if code != api.OK || f.Code != api.OK {
			continue
		}
		count++
		one, f := Program(p, in, 500)
		two, g := Program(q, in, 500)
		if f.Code != g.Code || whole(one) != whole(two) {
			t.Fatalf("%d: %v, %v, then %v, %v: %s", i, one, f, two, g, s)
		}
	}
	if count < 500 {
		t.Errorf("%d of them", count)
	}
}

// P10.3

// TestMoreFuel: with more fuel a run only goes on: what happened happens again, and if it ended by itself, it ends there.
func TestMoreFuel(t *testing.T) {
	longer := 0
	for i := range 300 {
		m := &maker{thrower: dice(i), long: 6}
		p, in := m.program(), m.inputs()
		before, f := Program(p, in, 0)
		if f.Code != api.OK {
			continue
		}
		for fuel := 1; fuel <= 150; fuel++ {
			tr, f := Program(p, in, fuel)
			if f != (api.Fault{}) || tr.Steps > fuel {
				t.Fatalf("%d, %d: %v, %v", i, fuel, tr, f)
			}
			n := len(before.Events)
			if len(tr.Events) < n || whole(tr.Events[:n]) != whole(before.Events) {
				t.Fatalf("%d, %d: %v, but before %v", i, fuel, tr, before)
			}
			// One step more, as long as there is one; else the same.
			if ended := before.Done || before.Steps < fuel-1; ended && whole(tr) != whole(before) || !ended && tr.Steps < before.Steps {
				t.Fatalf("%d, %d: %v, but before %v", i, fuel, tr, before)
			}
			if len(tr.Events) > n {
				longer++
			}
			before = tr
		}
		all, _ := Program(p, in, api.MaxSteps)
		if n := len(before.Events); len(all.Events) < n || whole(all.Events[:n]) != whole(before.Events) || before.Done && !all.Done || all.Steps < before.Steps {
			t.Fatalf("%d: %v, but before %v", i, all, before)
		}
	}
	if longer < 1000 {
		t.Errorf("%d longer", longer)
	}
}

// P1 to P3

// TestAny: whatever is handed in, a call ends, and tells chapter 6's fault first.
func TestAny(t *testing.T) {
	for i := range 20000 {
		d := dice(i)
		p, in := d.anything()
		fuel := d.roll(40) - 4
		code := Inputs(p, in)
		_, f := Program(p, in, fuel)
		want := scope.Check(p)
		if want.Code == api.OK {
			want.Code = code
		}
		if want.Code == api.OK && fuel < 0 {
			want.Code = api.ErrRange
		}
		if f != want {
			t.Fatalf("%d: %v, want %v: %v, %v, %d", i, f, want, p, in, fuel)
		}
	}
}

// TestShared: lists that lie in so many places that there is more than can be gone through, or within themselves.
func TestShared(t *testing.T) {
	x := num(1)
	for range api.MaxDeep - 1 {
		x = op("+", x, x)
	}
	tr, f := Program(prog(send("o", x)), make([][]int, 1), api.MaxSteps)
	if f != (api.Fault{}) || tr.Done || tr.Steps != api.MaxSteps {
		t.Errorf("an expression: %v, %v", tr, f)
	}
	x = x.A[0].A[0]
	if tr, f = Program(prog(send("o", x)), make([][]int, 1), api.MaxSteps); f != (api.Fault{}) || !tr.Done || tr.Steps != 1+1<<10-1 || told(tr.Events) != "o 512 {}" {
		t.Errorf("a smaller one: %v, %v", tr, f)
	}
	l := []api.Stmt{send("o", num(3))}
	for range api.MaxDeep - 1 {
		l = slices.Repeat([]api.Stmt{{Kind: api.If, E: op("==", num(1), num(1)), A: l, B: l}}, api.MaxBody)
	}
	if tr, f = Program(prog(l...), make([][]int, 1), api.MaxSteps); f != (api.Fault{}) || tr.Done || tr.Steps != api.MaxSteps || len(tr.Events) < 400 {
		t.Errorf("statements: %d events, %d, %v", len(tr.Events), tr.Steps, f)
	}
	refused(t, "too deep", prog(when(l...)), make([][]int, 1), 10, api.Fault{Code: api.ErrForm})
	ring := []api.Stmt{when()}
	ring[0].A = ring
	refused(t, "within itself", prog(ring...), make([][]int, 1), 10, api.Fault{Code: api.ErrForm})
	loop := []api.Expr{op("-")}
	loop[0].A = loop
	refused(t, "an expression within itself", prog(send("o", loop[0])), make([][]int, 1), 10, api.Fault{Code: api.ErrForm})
	// One list for two channels is taken from twice.
	p := read(t, house+"proc main() { var x = 0; take x i; send o x; take x k; send o x; take x i; send o x; }")
	same := []int{4, 5}
	if tr, f = Program(p, [][]int{same, nil, nil, nil, same}, 100); f != (api.Fault{}) || told(tr.Events) != o(4, 4, 5) {
		t.Errorf("one list: %v, %v", tr, f)
	}
}

// rich has all that an answer could share.
const rich = house + "proc f(x: int {a:;b:}): int {a:;b:} begin {a:} for a, b { var y = x; take x i; send o release(y + x to {a:b;b:a,b}); send o y; return y; } proc main() { var n = 0; while n < 5 { do f(n); send p release(true to {b:a}); n = n + 1; } }"

// TestReadOnly: what is handed in stays as it was, with its spare room.
func TestReadOnly(t *testing.T) {
	for s, want := range map[string]api.Errno{rich: api.OK, rich + "proc f() { }": api.ErrTwice} {
		p := read(t, s)
		in := roomy(reflect.ValueOf(lists(t, p, "i=4,5,6 j=1 k=7"))).Interface().([][]int)
		p = roomy(reflect.ValueOf(p)).Interface().(api.Program)
		see := func() string {
			return whole(unfolded(reflect.ValueOf(p)).Interface()) + whole(unfolded(reflect.ValueOf(in)).Interface())
		}
		was := see()
		for _, fuel := range []int{api.MaxSteps, 50, -1} {
			tr, f := Program(p, in, fuel)
			again, g := Program(p, in, fuel)
			if f != g || whole(tr) != whole(again) || fuel > 0 && f.Code != want {
				t.Errorf("%v, %v, then %v, %v", tr, f, again, g)
			}
			Inputs(p, in)
			if now := see(); now != was {
				t.Errorf("%s, was %s", now, was)
			}
		}
	}
}

// TestNew: what is answered shares no memory with what is handed in, and no two lists of it share any.
func TestNew(t *testing.T) {
	p := read(t, rich)
	in := lists(t, p, "i=4,5,6 j=1 k=7")
	ours := map[unsafe.Pointer]string{}
	pieces(reflect.ValueOf([]any{p, in}), func(at unsafe.Pointer, what string) { ours[at] = what })
	tr, f := Program(p, in, api.MaxSteps)
	if f.Code != api.OK || !tr.Done || len(tr.Events) != 25 {
		t.Fatal(f, tr)
	}
	seen := map[unsafe.Pointer]string{}
	pieces(reflect.ValueOf(tr), func(at unsafe.Pointer, what string) {
		if old := ours[at]; old != "" {
			t.Errorf("%s is what was handed in: %s", what, old)
		}
		if old := seen[at]; old != "" {
			t.Errorf("%s is that of another one: %s", what, old)
		}
		seen[at] = what
	})
	if len(seen) < 100 {
		t.Errorf("%d pieces", len(seen))
	}
	was, again := whole(p)+whole(in), whole(tr)
	spoil(reflect.ValueOf(&tr).Elem())
	if whole(p)+whole(in) != was {
		t.Error("changed by what is done to the answer")
	}
	if tr, _ := Program(p, in, api.MaxSteps); whole(tr) != again {
		t.Errorf("it has been kept: %v", tr)
	}
}

// TestOtherPanics: what no runner gave up with isn't taken for the end of a run.
func TestOtherPanics(t *testing.T) {
	if !ends(func() {}) || ends(func() { panic(stop{}) }) {
		t.Error("how a run ends isn't told")
	}
	defer func() {
		if r := recover(); r != "another one" {
			t.Errorf("%v", r)
		}
	}()
	ends(func() { panic("another one") })
	t.Error("it is hidden")
}
