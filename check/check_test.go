package check

import (
	"fmt"
	"reflect"
	"slices"
	"strings"
	"testing"
	"unsafe"

	"cloister/api"
	"cloister/flow"
	"cloister/parse"
	"cloister/scope"
	"cloister/tree"
)

// house stands ahead of procedures.
const house = "chief a; chief b; chief c; acts c b; in i: int {a:}; in j: bool {b:a}; in n: int {}; out o: int {a:}; out p: int {}; out r: int {a:;b:}; "

// P9.1

// TestTaken: programs that tell no more than they may, and the labels of their variables.
func TestTaken(t *testing.T) {
	for _, c := range []struct{ s, want string }{
		{"proc main() { }", ""},
		{"proc main() { send p 1; }", ""},
		{"proc main() { var x = 1; send p x; }", "x{}"},
		{"proc main() { var x = 1; take x n; send p x; }", "x{}"},
		{"proc main() { var x = 1; take x i; send o x; }", "x{a:}"},
		{"proc main() { var x = 1; take x i; send r x; }", "x{a:}"},
		{"proc main() { var x = 1; take x i; send o x * 2 - 1; send p 1; }", "x{a:}"},
		// A variable has one label, from its Let on.
		{"proc main() { var x = 1; var y = x; take x i; send o y; }", "x{a:} y{a:}"},
		{"proc main() { var x = 1; var y = 2; var s = true; take x i; take s j; if s { y = x; } send r y; }", "x{a:} y{a:;b:a} s{b:a}"},
		// What is within If and While tells of their E.
		{"proc main() { var x = 1; take x i; if x > 0 { send o 1; } else { send r 2; } send p 3; }", "x{a:}"},
		{"proc main() { var x = 1; var y = 1; take x i; while x > 0 { y = 2; x = x - 1; } send o y; }", "x{a:} y{a:}"},
		{"proc main() { var x = 1; take x i; if x > 0 { var y = 1; take y i; send o y; } }", "x{a:} y{a:}"},
		{"proc main() { var x = 1; take x i; if x > 0 { var y = 1; } else { var y = 2; if y > 1 { var z = true; } } var y = 3; }", "x{a:} y{a:} y{a:} z{a:} y{}"},
		// Labels that are told stay as they stand.
		{"proc main() { var x {a:} = 1; take x i; send o x; }", "x{a:}"},
		{"proc main() { var x {b:c,b;a:} = 1; take x i; var y = x; }", "x{b:c,b;a:} y{a:;b:c}"},
		{"proc main() { var x {} = 1; var y {c:} = 2; var z = x; send p z; }", "x{} y{c:} z{}"},
		// Calls.
		{"proc f(x: int {a:}): int {a:} { return x + 1; } proc main() { var x = 1; take x i; var y = f(x); send o y; }", "x{a:} y{a:}"},
		{"proc f() begin {a:} { var z = 1; send o z; } proc main() { var x = 1; take x i; if x > 0 { do f(); } }", "z{a:} x{a:}"},
		{"proc f(x: int {}): int {} { var y = x; if x > 0 { y = f(x - 1); } return y; } proc main() { send p f(3); }", "y{}"},
		{"proc main() { var x = g(); do main(); } proc g(): bool {b:a} { var y = true; take y j; return y; }", "x{b:a} y{b:a}"},
		// Releases, with the authority of the owner.
		{"proc main() for a { var x = 1; take x i; send p release(x to {}); }", "x{a:}"},
		{"proc main() for b, a { var x = 1; take x i; var y = release(x to {}); send p y; }", "x{a:} y{}"},
		{"proc main() for a { var x = 1; take x i; var y {} = release(x to {}) + 1; }", "x{a:} y{}"},
		{"proc main() for c { var s = true; take s j; if release(s to {}) { send p 1; } }", "s{b:a}"},
		{"proc main() for a { var x {a:;b:} = 1; var y = release(x to {b:}); send r y; }", "x{a:;b:} y{b:}"},
		{"proc main() for a, b { var x {a:;b:} = 1; send o release(x to {a:}); send p release(x to {}); }", "x{a:;b:}"},
		{"proc main() for a { var x = 1; take x i; if x > 0 { send o release(x to {a:}); } }", "x{a:}"},
		// Where nothing is left out, nobody's authority is asked for.
		{"proc main() { send p release(1 to {}); }", ""},
		{"proc main() { var x = 1; take x i; send o release(x to {a:}); }", "x{a:}"},
		{"proc main() for c { var x = 1; take x i; send r release(x to {a:;b:}); }", "x{a:}"},
	} {
		p := read(t, house+c.s)
		q, f := Program(p)
		if f != (api.Fault{}) || lets(q) != c.want {
			t.Errorf("%s: %v, %s, want %s", c.s, f, lets(q), c.want)
		}
		again, f := Text(house + c.s)
		if f != (api.Fault{}) || whole(again) != whole(q) {
			t.Errorf("%s: its text: %v, %v", c.s, f, again)
		}
		// All else stays as it is.
		if whole(unlabelled(q)) != whole(unlabelled(p)) {
			t.Errorf("%s: %v, was %v", c.s, q, p)
		}
	}
}

// unlabelled answers p without the labels of Lets.
func unlabelled(p api.Program) api.Program {
	var bare func(l []api.Stmt) []api.Stmt
	bare = func(l []api.Stmt) []api.Stmt {
		l = slices.Clone(l)
		for i := range l {
			l[i].Labelled, l[i].L = false, nil
			l[i].A, l[i].B = bare(l[i].A), bare(l[i].B)
		}
		return l
	}
	p.Procs = slices.Clone(p.Procs)
	for i := range p.Procs {
		p.Procs[i].Body = bare(p.Procs[i].Body)
	}
	return p
}

// TestRefused: programs that tell more than they may, and where.
func TestRefused(t *testing.T) {
	const x = "proc main() { var x = 1; take x i; "
	for _, c := range []struct {
		s    string
		want api.Errno
	}{
		{x + "①send p x; }", api.ErrFlow},
		{x + "①send p 1 + -x; }", api.ErrFlow},
		{x + "①send p x * 0; }", api.ErrFlow},
		{x + "var y = x; var z = y; ①send p z; }", api.ErrFlow},
		{x + "if x > 0 { ①send p 1; } }", api.ErrFlow},
		{x + "if x > 0 { } else { ①send p 1; } }", api.ErrFlow},
		{x + "while x > 0 { ①send p 1; } }", api.ErrFlow},
		{x + "if x > 0 { if true { while false { ①send p 1; } } } }", api.ErrFlow},
		{x + "var y = 1; if x > 0 { y = 2; } ①send p y; }", api.ErrFlow},
		{x + "var y = 1; while x > 0 { y = 2; x = 0; } ①send p y; }", api.ErrFlow},
		{x + "var y {} = 1; if x > 0 { ①y = 2; } }", api.ErrFlow},
		{x + "①var y {} = x; }", api.ErrFlow},
		{x + "if x > 0 { ①var y {b:} = 1; } }", api.ErrFlow},
		{x + "var y {} = 1; ①y = x; }", api.ErrFlow},
		{x + "var y {} = 1; ①take y i; }", api.ErrFlow},
		{x + "var y = 1; if x > 0 { ①take y n; } }", api.ErrFlow},
		{x + "if x > 0 { ①take x n; } }", api.ErrFlow},
		// A variable has one label, from its Let on.
		{"proc main() { var x = 1; ①send p x; take x i; }", api.ErrFlow},
		{"proc main() { var s = true; send o 1; if s { ①send o 1; } take s j; }", api.ErrFlow},
		// Calls.
		{"proc f(n: int {}) { } " + x + "do f(①x); }", api.ErrFlow},
		{"proc f(m: int {a:}, n: int {}): int {} { return 1; } " + x + "var y = f(x, x ①+ 1); }", api.ErrFlow},
		{"proc f(n: int {}) { } " + x + "if x > 0 { do f(①1); } }", api.ErrFlow},
		{"proc f() { } " + x + "if x > 0 { do ①f(); } }", api.ErrFlow},
		{"proc f(): int {} { return 1; } " + x + "if x > 0 { x = ①f(); } }", api.ErrFlow},
		{"proc f() begin {a:} { ①send p 1; } proc main() { }", api.ErrFlow},
		{"proc f(n: int {}) { ①take n i; } proc main() { }", api.ErrFlow},
		{"proc f(n: int {a:}): int {} { ①return n; } proc main() { }", api.ErrFlow},
		{"proc f(): int {} begin {a:} { ①return 1; } proc main() { }", api.ErrFlow},
		{"proc f(): int {a:} { return 1; } proc main() { ①send p f(); }", api.ErrFlow},
		{"proc main() begin {a:} { ①send p 1; }", api.ErrFlow},
		{"proc main() begin {a:} { do ①f(); } proc f() begin {b:} { }", api.ErrFlow},
		// Releases without authority.
		{x + "send p ①release(x to {}); }", api.ErrFlow},
		{"proc main() for b { var x = 1; take x i; send p ①release(x to {}); }", api.ErrMay},
		{"proc main() for b, c { var x = 1; take x i; var y = ①release(x to {}); }", api.ErrMay},
		{"proc main() for b { var x {c:} = 1; send p ①release(x to {}); }", api.ErrMay},
		{"proc main() for a { var x {a:;b:} = 1; send p ①release(x to {}); }", api.ErrMay},
		{"proc main() for a { var x {a:;b:} = 1; send p ①release(x to {a:}); }", api.ErrMay},
		{"proc f(): int {} for b { var x = 1; take x i; return ①release(x to {}); } proc main() for a { }", api.ErrMay},
		{"proc f(): int {} for a { return 1; } proc main() { var x = 1; take x i; send p f() + ①release(x to {}); }", api.ErrFlow},
		// That there is a release tells of what it is within, whoever is the owner.
		{"proc main() for a { var x = 1; take x i; if x > 0 { var y = ①release(x to {}); } }", api.ErrFlow},
		{"proc main() for a { var x = 1; take x i; while x > 0 { x = ①release(1 to {}); } }", api.ErrFlow},
		{"proc main() begin {a:} for a { var y = ①release(1 to {}); }", api.ErrFlow},
		// What is released has the label to which it is, no less.
		{"proc main() for a { var x = 1; take x i; ①send p release(x to {b:}); }", api.ErrFlow},
		{"proc main() for a { var x = 1; take x i; if x > 0 { ①send p release(x to {a:}); } }", api.ErrFlow},
		{"proc main() for a { var x = 1; take x i; ①send p release(x to {}) + x; }", api.ErrFlow},
	} {
		refused(t, house+c.s, c.want)
	}
}

// refused: Program of a text answers this error at its mark, and nothing else; and so does Text.
func refused(t *testing.T, s string, want api.Errno) {
	t.Helper()
	s, at := marked(t, s)
	p, f := Program(read(t, s))
	if f != (api.Fault{Code: want, At: at}) || whole(p) != whole(api.Program{}) {
		t.Errorf("%s: %v, %v, want %d at %d", s, f, p, want, at)
	}
	p, f = Text(s)
	if f != (api.Fault{Code: want, At: at}) || whole(p) != whole(api.Program{}) {
		t.Errorf("%s: its text: %v, %v, want %d at %d", s, f, p, want, at)
	}
}

// TestFirst: of several bounds that aren't held the first one of the walk is told, whatever stands behind it, or lies ahead in the text.
func TestFirst(t *testing.T) {
	const x = "var x = 1; take x i; "
	for _, c := range []struct {
		s    string
		want api.Errno
	}{
		{"proc main() { " + x + "①send p x; send p x; }", api.ErrFlow},
		{"proc main() for b { " + x + "①send p x; send p release(x to {}); }", api.ErrFlow},
		{"proc main() for b { " + x + "send p ①release(x to {}); send p x; }", api.ErrMay},
		{"proc f() for b { " + x + "x = ①release(x to {}); } proc main() { " + x + "send p x; }", api.ErrMay},
		{"proc main() { " + x + "①send p x; } proc f() for b { " + x + "x = release(x to {}); }", api.ErrFlow},
		// What is within an expression goes ahead of the expression, and of its statement.
		{"proc main() for b { " + x + "send p x + ①release(x to {}); }", api.ErrMay},
		{"proc main() for b { " + x + "send p release(①release(x to {}) + x to {}); }", api.ErrMay},
		{"proc main() for b { " + x + "send p f(①x, release(x to {})); } proc f(m: int {}, n: int {}): int {} { return 1; }", api.ErrFlow},
		{"proc main() for b { " + x + "send p f(1, ①release(x to {}), x); } proc f(l: int {}, m: int {}, n: int {}): int {} { return 1; }", api.ErrMay},
		{"proc main() for b { " + x + "if x > 0 { do f(①1); } } proc f(n: int {}) { }", api.ErrFlow},
		{"proc main() for b { " + x + "while ①release(x to {}) > 0 { send p x; } }", api.ErrMay},
		{"proc main() { " + x + "if x > 0 { ①send p 1; } else { send p 2; } }", api.ErrFlow},
		{"proc main() { " + x + "if x > 0 { } else { if true { ①send p 1; } send p 2; } send p x; }", api.ErrFlow},
		// Of a release what is within goes first, then that there is one.
		{"proc main() for b { " + x + "if x > 0 { send p ①release(x to {}); } }", api.ErrMay},
		{"proc main() for a { " + x + "if x > 0 { send p ①release(x to {}); } }", api.ErrFlow},
	} {
		refused(t, house+c.s, c.want)
	}
}

// TestFaults: the faults of chapters 5 and 7 go ahead, and nothing is answered beside them.
func TestFaults(t *testing.T) {
	const wrong = "proc g() { var x = 1; take x i; send p x; } "
	for _, s := range []string{
		"",
		house,
		wrong + "proc main() { }",
		house + wrong,
		house + wrong + "proc main() { y = 1; }",
		house + wrong + "proc main() { var y = 1; y = true; }",
		house + wrong + "proc main() { send i 1; }",
		house + wrong + "proc main() { var y {d:} = 1; }",
		house + wrong + "proc main() for d { }",
		house + wrong + "proc main(): int {} { return 1; }",
		house + wrong + wrong + "proc main() { }",
	} {
		p := read(t, s)
		want := scope.Check(p)
		if want.Code == api.OK {
			t.Fatalf("%s: it is right", s)
		}
		faulty(t, s, want, func() (api.Program, api.Fault) { return Program(p) })
		faulty(t, s, want, func() (api.Program, api.Fault) { return Text(s) })
	}
	for _, s := range []string{
		"?", "1", "proc", "proc main() {", "proc main() { } }", "proc main() for a begin {a:} { }",
		house + wrong + "proc main() { var x 1; }",
		house + wrong + "proc main() { var x = 0123; }",
		house + wrong + strings.Repeat(" ", api.MaxText),
		house + wrong + "chief d; chief e; chief f; chief g; proc main() { }",
		house + wrong + "proc main() { " + strings.Repeat("send p 1; ", api.MaxBody+1) + "}",
	} {
		_, want := parse.Program(s)
		if want.Code == api.OK {
			t.Fatalf("%s: it is a program", s)
		}
		faulty(t, s, want, func() (api.Program, api.Fault) { return Text(s) })
	}
	p := prog(when(api.Stmt{Kind: api.Let, Name: "x", E: num(-1)}))
	faulty(t, "unformed", api.Fault{Code: api.ErrForm}, func() (api.Program, api.Fault) { return Program(p) })
	faulty(t, "nothing", api.Fault{Code: api.ErrWho}, func() (api.Program, api.Fault) { return Program(api.Program{}) })
}

// faulty: what is asked answers this fault, and nothing else.
func faulty(t *testing.T, what string, want api.Fault, ask func() (api.Program, api.Fault)) {
	t.Helper()
	if p, f := ask(); f != want || whole(p) != whole(api.Program{}) {
		t.Errorf("%s: %v, %v, want %v", what, f, p, want)
	}
}

// TestMany: as many bounds as may be are checked to the last one; one more is told ahead of any that isn't held.
func TestMany(t *testing.T) {
	secret := read(t, "chief a; chief b; in i: int {a:}; out p: int {}; proc main() { }")
	leak := func(n int, first bool) api.Program {
		p := secret
		take := []api.Stmt{{Kind: api.Let, Name: "x", E: num(1)}, {Kind: api.Take, Name: "x", Of: "i"}}
		send := api.Stmt{Kind: api.Send, At: 77, Name: "p", E: v("x")}
		var rest []api.Stmt
		for i := 4; i < n; i++ {
			if i%10 == 4 {
				rest = append(rest, when())
			}
			last := &rest[len(rest)-1]
			last.A = append(last.A, api.Stmt{Kind: api.Let, At: i, Name: fmt.Sprint("y", i), E: v("x")})
		}
		var body []api.Stmt
		for l := range slices.Chunk(rest, 20) {
			body = append(body, when(l...))
		}
		if first {
			body = slices.Concat(take, []api.Stmt{send}, body)
		} else {
			body = slices.Concat(take, body, []api.Stmt{send})
		}
		p.Procs = []api.Proc{{Name: "main", Body: body}}
		return p
	}
	for _, n := range []int{4, 5, 399, 400} {
		for _, first := range []bool{true, false} {
			p := leak(n, first)
			if _, _, l, _ := flow.Bounds(p); len(l) != n {
				t.Fatalf("%d bounds, want %d", len(l), n)
			}
			faulty(t, fmt.Sprint(n, first), api.Fault{Code: api.ErrFlow, At: 77}, func() (api.Program, api.Fault) { return Program(p) })
			p.Chans[1].L = api.Label{{Owner: "a"}}
			q, f := Program(p)
			if f != (api.Fault{}) || strings.Count(lets(q), "{a:}") != n-3 {
				t.Errorf("%d, %v: %v, %s", n, first, f, lets(q))
			}
			p.Chans[1].L = nil
		}
	}
	faulty(t, "one more", api.Fault{Code: api.ErrMany, At: 400}, func() (api.Program, api.Fault) { return Program(leak(401, true)) })
	faulty(t, "one more", api.Fault{Code: api.ErrMany, At: 77}, func() (api.Program, api.Fault) { return Program(leak(401, false)) })
}

// TestMade holds Program of made programs against what the chapter says, by the calls of chapters 3 and 7.
func TestMade(t *testing.T) {
	got := map[api.Errno]int{}
	found := 0
	for i := range 4000 {
		m := &maker{thrower: dice(i), chiefs: 4, shared: i%3 == 0, long: []int{3, 4, 6}[i%3]}
		p := m.program()
		q, f := Program(p)
		have, want := right(p)
		if f != want {
			s, _ := tree.Print(p)
			t.Fatalf("%d: %v, want %v: %s", i, f, want, s)
		}
		got[f.Code]++
		if f.Code != api.OK {
			if whole(q) != whole(api.Program{}) {
				t.Fatalf("%d: %v, %v", i, q, f)
			}
			continue
		}
		found += len(have)
		c := court{p.Chiefs, p.Acts}
		told := labelsOf(p, q)
		if len(told) != len(have) || whole(q) != whole(fill(p, told)) {
			t.Fatalf("%d: %v, was %v", i, q, p)
		}
		for j := range have {
			if !c.flows(told[j], have[j]) || !c.flows(have[j], told[j]) {
				t.Fatalf("%d: label %d is %v, want %v", i, j, told[j], have[j])
			}
		}
	}
	if got[api.OK] < 600 || got[api.ErrFlow] < 600 || got[api.ErrMay] < 100 || found < 1000 {
		t.Errorf("%v, %d labels", got, found)
	}
}

// labelsOf answers the labels that q has where p has none, in the order of their numbers.
func labelsOf(p, q api.Program) []api.Label {
	var out []api.Label
	var within func(l, k []api.Stmt)
	within = func(l, k []api.Stmt) {
		for i := range l {
			if l[i].Kind == api.Let && !l[i].Labelled {
				out = append(out, k[i].L)
			}
			within(l[i].A, k[i].A)
			within(l[i].B, k[i].B)
		}
	}
	for i := range p.Procs {
		within(p.Procs[i].Body, q.Procs[i].Body)
	}
	return out
}

// TestFilled: which Let has which label.
func TestFilled(t *testing.T) {
	for _, c := range []struct{ s, have, want string }{
		{"proc main() { }", "", ""},
		{"proc main() { }", "{a:}", ""},
		{"proc main() { var x = 1; }", "{a:}", "x{a:}"},
		{"proc main() { var x = 1; }", "{b:c,b;a:;a:;z:y}", "x{b:c,b;a:;a:;z:y}"},
		{"proc main() { var x = 1; var y = 2; var z = 3; }", "{a:} {b:} {c:}", "x{a:} y{b:} z{c:}"},
		{"proc main() { var x = 1; var y = 2; var z = 3; }", "{a:}", "x{a:} y{} z{}"},
		{"proc main() { var x = 1; var y = 2; var z = 3; }", "", "x{} y{} z{}"},
		{"proc main() { var x = 1; }", "{a:} {b:} {c:}", "x{a:}"},
		{"proc main() { var x = 1; var y = 2; }", "{} {b:}", "x{} y{b:}"},
		// Those that are Labelled stay, and have no number.
		{"proc main() { var x {z:} = 1; var y = 2; var z {} = 3; var u = 4; }", "{a:} {b:} {c:}", "x{z:} y{a:} z{} u{b:}"},
		// What is within a statement comes behind it: A, then B.
		{"proc main() { var x = 1; if true { var y = 1; } else { var z = 1; } var u = 1; }", "{a:} {b:} {c:} {d:}", "x{a:} y{b:} z{c:} u{d:}"},
		{"proc main() { if true { while true { var x = 1; } var y = 1; } else { if true { } else { var z = 1; } } var u = 1; }", "{a:} {b:} {c:} {d:}", "x{a:} y{b:} z{c:} u{d:}"},
		{"proc main() { while true { var x = 1; var y {} = 1; var z = 1; } var u = 1; }", "{a:} {b:}", "x{a:} y{} z{b:} u{}"},
		// Procedure by procedure.
		{"proc f(x: int {a:}): int {b:} begin {c:} { var y = 1; return y; } proc main() { var x = 1; } proc g() { var z = 1; }", "{a:} {b:} {c:}", "y{a:} x{b:} z{c:}"},
		{"proc f() { var y = 1; } proc main() { } proc g() { var z = 1; }", "{a:}", "y{a:} z{}"},
		// It is not asked whether the program is right.
		{"chief a; chief a; proc f() { var x = nobody; x = true; var x = 1; } proc f() { }", "{a:} {b:}", "x{a:} x{b:}"},
		{house + "proc main() { var x = 1; take x i; send p x; }", "{}", "x{}"},
	} {
		p, have := read(t, c.s), labs(t, c.have)
		q := Filled(p, have)
		if lets(q) != c.want {
			t.Errorf("%s: %s: %s, want %s", c.s, c.have, lets(q), c.want)
		}
		if whole(q) != whole(fill(p, have)) {
			t.Errorf("%s: %s: %v, was %v", c.s, c.have, q, p)
		}
	}
	if q := Filled(api.Program{}, nil); whole(q) != whole(api.Program{}) {
		t.Errorf("nothing: %v", q)
	}
	if q := Filled(api.Program{}, owners("a")); whole(q) != whole(api.Program{}) {
		t.Errorf("nothing, with a label: %v", q)
	}
}

// TestFilledAny: programs that have no form; what isn't a Let stays as it is, whatever it has.
func TestFilledAny(t *testing.T) {
	lied := api.Label{{Owner: "z", Readers: []string{"", "\xff"}}}
	for _, c := range []struct {
		what string
		l    []api.Stmt
		want string
	}{
		{"a label, but not Labelled", []api.Stmt{{Kind: api.Let, Name: "x", L: lied}, {Kind: api.Let, Name: "y", L: lied}}, "x{a:} y{}"},
		{"Labelled, but no label", []api.Stmt{{Kind: api.Let, Name: "x", Labelled: true}, let("y")}, "x{} y{a:}"},
		{"a Let with others within", []api.Stmt{{Kind: api.Let, Name: "x", A: []api.Stmt{let("y")}, B: []api.Stmt{let("z")}}}, "x{a:} y{} z{}"},
		{"a Labelled Let with others within", []api.Stmt{{Kind: api.Let, Name: "x", Labelled: true, B: []api.Stmt{let("y")}}, let("z")}, "x{} y{a:} z{}"},
		{"a Send with one within", []api.Stmt{{Kind: api.Send, B: []api.Stmt{let("y")}}, let("z")}, "y{a:} z{}"},
		{"of no kind", []api.Stmt{{Kind: 99, Name: "x", A: []api.Stmt{let("y")}}, {Kind: -1, L: lied, Labelled: true}, {}, let("z")}, "y{a:} z{}"},
		{"an If that is Labelled", []api.Stmt{{Kind: api.If, Labelled: true, L: lied, B: []api.Stmt{let("y")}}}, "y{a:}"},
	} {
		p := prog(c.l...)
		q := Filled(p, owners("a"))
		if lets(q) != c.want || whole(q) != whole(fill(p, owners("a"))) {
			t.Errorf("%s: %s, want %s: %v", c.what, lets(q), c.want, q)
		}
	}
	for i := range 3000 {
		d := dice(i)
		p := d.anything()
		have := []api.Label{}
		for range d.roll(6) {
			have = append(have, d.anyLabel())
		}
		if got, want := whole(Filled(p, have)), whole(fill(p, have)); got != want {
			t.Fatalf("%d: %s, want %s", i, got, want)
		}
	}
}

// P9.2

// TestAgain: what Program tells is told again by it, and of its text.
func TestAgain(t *testing.T) {
	count, printed := 0, 0
	for i := range 4000 {
		m := &maker{thrower: dice(i), chiefs: 4, shared: i%3 == 0, long: []int{3, 4, 6}[i%3]}
		q, f := Program(m.program())
		if f.Code != api.OK {
			continue
		}
		count++
		again, f := Program(q)
		if f != (api.Fault{}) || whole(again) != whole(q) || strings.Contains(lets(q), "?") {
			t.Fatalf("%d: %v, %v, was %v", i, f, again, q)
		}
		s, code := tree.Print(q)
		if code != api.OK {
			t.Fatalf("%d: %d", i, code)
		}
		if _, f := parse.Program(s); f.Code == api.ErrMany {
			continue
		}
		printed++
		if again, f = Text(s); f != (api.Fault{}) || !tree.Same(again, q) {
			t.Fatalf("%d: %v, %v, was %v", i, f, again, q)
		}
	}
	if count < 600 || printed < 500 {
		t.Errorf("%d are taken, %d of their texts read", count, printed)
	}
}

// TestOthers: if any labels make a program right, it is taken, and the labels that are told may go to these; made of all labels of two chiefs.
func TestOthers(t *testing.T) {
	taken, wrong, others := 0, 0, 0
	for i := range 1200 {
		m := &maker{thrower: dice(i), chiefs: 2, long: 4}
		p := m.program()
		n, _, _, f := flow.Bounds(p)
		if f.Code != api.OK || n == 0 || n > 2 {
			continue
		}
		q, f := Program(p)
		var told []api.Label
		if f.Code == api.OK {
			taken++
			told = labelsOf(p, q)
		} else {
			wrong++
		}
		c := court{p.Chiefs, p.Acts}
		each := every(p.Chiefs[0], p.Chiefs[len(p.Chiefs)-1])
		for j := range len(each) * len(each) {
			have := []api.Label{each[j%len(each)], each[j/len(each)]}
			if n == 1 && j >= len(each) {
				break
			}
			if _, g := Program(Filled(p, have)); g.Code != api.OK {
				continue
			}
			others++
			if f.Code != api.OK {
				t.Fatalf("%d: %v, but %v make it right: %v", i, f, have, p)
			}
			for k := range told {
				if !c.flows(told[k], have[k]) {
					t.Fatalf("%d: %v, but %v make it right, too: %v", i, told, have, p)
				}
			}
		}
	}
	if taken < 50 || wrong < 50 || others < 1000 {
		t.Errorf("%d are taken, %d are not; %d others", taken, wrong, others)
	}
}

// P1 to P3

// TestShared: a list that lies in many places has labels of its own in each of them.
func TestShared(t *testing.T) {
	inner := []api.Stmt{let("x"), let("y")}
	p := prog(when(inner...), api.Stmt{Kind: api.If, E: bit(1), A: inner, B: inner[:1]}, when(inner[1:]...))
	p.Procs = append(p.Procs, api.Proc{Name: "f", Body: inner})
	q := Filled(p, owners("a", "b", "c", "d", "e", "f", "g", "h"))
	if want := "x{a:} y{b:} x{c:} y{d:} x{e:} y{f:} x{g:} y{h:}"; lets(q) != want {
		t.Errorf("%s, want %s", lets(q), want)
	}
	apart(t, "lists", p, q)
	if q, f := Program(p); f != (api.Fault{}) || strings.Count(lets(q), "{}") != 8 {
		t.Errorf("%v, %s", f, lets(q))
	}
	one := []api.Expr{num(1), op("-", num(2))}
	same := api.Label{{Owner: "a", Readers: []string{"b"}}}
	s := api.Stmt{Kind: api.Let, Name: "x", Labelled: true, L: same, E: api.Expr{Kind: api.Call, Name: "f", L: same, A: one}}
	p = prog(s, s, when(s), api.Stmt{Kind: api.Send, E: op("+", one...)})
	p.Chans = []api.Chan{{L: same}, {L: same}}
	p.Procs = append(p.Procs, api.Proc{Params: []api.Param{{L: same}, {L: same}}, Result: api.Param{L: same}, Begin: same, For: same[0].Readers, Body: p.Procs[0].Body})
	q = Filled(p, nil)
	if whole(q) != whole(p) {
		t.Errorf("%v, was %v", q, p)
	}
	apart(t, "expressions and labels", p, q)
	p = prog(let("x"), let("y"))
	have := []api.Label{same, same}
	q = Filled(p, have)
	apart(t, "labels of Lets", []any{p, have}, q)
}

// apart: no list of q is one of p, or another one of q.
func apart(t *testing.T, what string, p any, q api.Program) {
	t.Helper()
	ours, seen := map[unsafe.Pointer]string{}, map[unsafe.Pointer]string{}
	pieces(reflect.ValueOf(p), func(at unsafe.Pointer, what string) { ours[at] = what })
	pieces(reflect.ValueOf(q), func(at unsafe.Pointer, piece string) {
		if old := ours[at]; old != "" {
			t.Errorf("%s: %s is what was handed in: %s", what, piece, old)
		}
		if old := seen[at]; old != "" {
			t.Errorf("%s: %s is that of another one: %s", what, piece, old)
		}
		seen[at] = piece
	})
}

// pieces shows where the lists and names of x lie.
func pieces(x reflect.Value, see func(at unsafe.Pointer, what string)) {
	switch x.Kind() {
	case reflect.String:
		if x.Len() > 0 {
			see(unsafe.Pointer(unsafe.StringData(x.String())), x.String())
		}
	case reflect.Interface:
		pieces(x.Elem(), see)
	case reflect.Struct:
		for i := range x.NumField() {
			pieces(x.Field(i), see)
		}
	case reflect.Array:
		for i := range x.Len() {
			pieces(x.Index(i), see)
		}
	case reflect.Slice:
		for i := range x.Len() {
			pieces(x.Index(i), see)
		}
		if x.Cap() > 0 {
			see(x.UnsafePointer(), fmt.Sprint(x.Type()))
		}
	}
}

// rich is right, and has all that an answer could share.
const rich = house + "proc f(x: int {a:;b:}): int {a:;b:} begin {a:} for a, b { var y = x; var z {a:;b:c} = release(y + f(x) to {a:}); take x i; while z > y { if true { var u = release(y to {b:a,c;a:;b:}); send r u; } else { var u = 1; z = -u; } } return y + z; } proc main() { do f(1); }"

// TestNew: what is answered shares no memory with what is handed in, and no two lists of it share any.
func TestNew(t *testing.T) {
	p := read(t, rich)
	q, f := Program(p)
	if f.Code != api.OK || lets(q) != "y{a:;b:} z{a:;b:c} u{a:;b:} u{a:;b:}" {
		t.Fatal(f, lets(q))
	}
	apart(t, "Program", p, q)
	if q, f = Text(rich); f.Code != api.OK {
		t.Fatal(f)
	}
	apart(t, "Text", rich, q)
	for i := range 300 {
		d := dice(i)
		p := d.anything()
		have := []api.Label{d.anyLabel(), d.anyLabel(), d.anyLabel()}
		apart(t, "Filled", []any{p, have}, Filled(p, have))
	}
	was, have := whole(p), owners("a", "b")
	q = Filled(p, have)
	spoil(reflect.ValueOf(&q).Elem())
	if whole(p) != was || whole(have) != whole(owners("a", "b")) {
		t.Errorf("%v, %v: changed by what is done to the answer", p, have)
	}
	if q := Filled(p, have); whole(q) != whole(fill(p, have)) {
		t.Errorf("it has been kept: %v", q)
	}
}

// spoil changes all of x.
func spoil(x reflect.Value) {
	switch x.Kind() {
	case reflect.String:
		x.SetString("spoilt")
	case reflect.Int:
		x.SetInt(-7)
	case reflect.Struct:
		for i := range x.NumField() {
			spoil(x.Field(i))
		}
	case reflect.Array, reflect.Slice:
		for i := range x.Len() {
			spoil(x.Index(i))
		}
	}
}

// roomy answers x, with spare room behind each list of it, in which something stands.
func roomy(x reflect.Value) reflect.Value {
	out := reflect.New(x.Type()).Elem()
	switch x.Kind() {
	case reflect.Struct:
		for i := range x.NumField() {
			out.Field(i).Set(roomy(x.Field(i)))
		}
	case reflect.Slice:
		out = reflect.MakeSlice(x.Type(), x.Len()+1, x.Len()+1)
		for i := range x.Len() {
			out.Index(i).Set(roomy(x.Index(i)))
		}
		spoil(out.Index(x.Len()))
		out = out.Slice(0, x.Len())
	default:
		out.Set(x)
	}
	return out
}

// unfolded answers x, with the spare room behind each list as part of it.
func unfolded(x reflect.Value) reflect.Value {
	out := reflect.New(x.Type()).Elem()
	switch x.Kind() {
	case reflect.Struct:
		for i := range x.NumField() {
			out.Field(i).Set(unfolded(x.Field(i)))
		}
	case reflect.Slice:
		out = reflect.MakeSlice(x.Type(), x.Cap(), x.Cap())
		for i := range x.Cap() {
			out.Index(i).Set(unfolded(x.Slice(0, x.Cap()).Index(i)))
		}
	default:
		out.Set(x)
	}
	return out
}

// TestReadOnly: what is handed in stays as it was, with its spare room.
func TestReadOnly(t *testing.T) {
	for s, want := range map[string]api.Errno{rich: api.OK, strings.Replace(rich, "send r", "send p", 1): api.ErrFlow} {
		p := roomy(reflect.ValueOf(read(t, s))).Interface().(api.Program)
		have := roomy(reflect.ValueOf(owners("a", "b"))).Interface().([]api.Label)
		see := func() string {
			return whole(unfolded(reflect.ValueOf(p)).Interface()) + whole(unfolded(reflect.ValueOf(have)).Interface())
		}
		was := see()
		q, f := Program(p)
		if _, again := Program(p); f != again || f.Code != want {
			t.Errorf("%v, then %v: %v", f, again, q)
		}
		if now := see(); now != was {
			t.Errorf("%s, was %s", now, was)
		}
		r := Filled(p, have)
		if again := Filled(p, have); whole(r) != whole(again) || whole(r) != whole(fill(p, have)) {
			t.Errorf("%v, then %v", r, again)
		}
		if now := see(); now != was {
			t.Errorf("%s, was %s", now, was)
		}
	}
}

// TestDeep: lists that lie deeper than may be.
func TestDeep(t *testing.T) {
	const n = 100000
	l, x := []api.Stmt{}, num(1)
	for i := range n {
		l = []api.Stmt{let("x"), {Kind: api.If, At: i, A: l, B: []api.Stmt{let("y")}}}
		x = op("-", x)
	}
	l[0].E = x
	body := Filled(prog(l...), owners("a", "b")).Procs[0].Body
	if !tree.SameExpr(x, body[0].E) {
		t.Error("the expression isn't what was handed in")
	}
	for i := range n {
		x, y := body[0], body[1].B[0]
		if x.Name != "x" || !x.Labelled || y.Name != "y" || !y.Labelled || body[1].At != n-1-i {
			t.Fatalf("%d: %v, %v", i, x, y)
		}
		if want := append(owners("a", "b"), nil)[min(i, 2)]; whole(x.L) != whole(want) || len(y.L) > 0 {
			t.Fatalf("%d: %v, %v", i, x.L, y.L)
		}
		body = body[1].A
	}
	if len(body) > 0 {
		t.Errorf("more than was handed in: %v", body)
	}
	faulty(t, "deep", api.Fault{Code: api.ErrForm}, func() (api.Program, api.Fault) { return Program(prog(l...)) })
}

// TestRings: lists that lie within themselves. Each Let is Labelled, all the way down.
func TestRings(t *testing.T) {
	const far = 3 * most
	// Those behind what has no end have no number.
	ring := []api.Stmt{let("x"), {Kind: api.While, E: bit(1)}, let("y")}
	ring[1].A = ring
	q := Filled(prog(ring...), owners("a", "b", "c"))
	body := q.Procs[0].Body
	for i := range far {
		want := append(owners("a", "b", "c"), nil)[min(i, 3)]
		if len(body) != 3 || !body[0].Labelled || whole(body[0].L) != whole(want) || !body[2].Labelled || len(body[2].L) > 0 {
			t.Fatalf("%d: %v", i, body[0])
		}
		body = body[1].A
	}
	// Neither have those of procedures behind it.
	ring = []api.Stmt{{Kind: api.If, B: []api.Stmt{let("x")}}}
	ring[0].A = ring
	p := prog(ring...)
	p.Procs = append(p.Procs, api.Proc{Body: []api.Stmt{let("y")}})
	q = Filled(p, owners("a"))
	body = q.Procs[0].Body
	for i := range far {
		if s := body[0].B[0]; !s.Labelled || len(s.L) > 0 {
			t.Fatalf("%d: %v", i, s)
		}
		body = body[0].A
	}
	if s := q.Procs[1].Body[0]; !s.Labelled || len(s.L) > 0 {
		t.Errorf("behind it: %v", s)
	}
	// A Let that has all of this within, on either side.
	ring = []api.Stmt{let("x")}
	ring[0].A, ring[0].B = ring, ring
	body = Filled(prog(ring...), owners("a", "b")).Procs[0].Body
	if whole(body[0].L) != whole(owners("a")[0]) || whole(body[0].A[0].L) != whole(owners("b")[0]) || len(body[0].B[0].L) > 0 {
		t.Errorf("%v, %v, %v", body[0].L, body[0].A[0].L, body[0].B[0].L)
	}
	// Expressions have no end that a Let could stand behind.
	x := []api.Expr{op("+"), num(7)}
	x[0].A = x
	body = Filled(prog(api.Stmt{Kind: api.Send, E: x[0]}, let("x")), owners("a")).Procs[0].Body
	if !tree.SameExpr(body[0].E, x[0]) || whole(body[1].L) != whole(owners("a")[0]) {
		t.Errorf("an expression: %v", body[1])
	}
	faulty(t, "a ring", api.Fault{Code: api.ErrForm}, func() (api.Program, api.Fault) { return Program(prog(ring...)) })
}

// TestLarge: lists that lie in so many places that all of them can't be laid one by one.
func TestLarge(t *testing.T) {
	plain := op("<", num(1), num(2))
	for range api.MaxDeep - 2 {
		plain = op("&&", plain, plain)
	}
	quiet := []api.Stmt{}
	for range api.MaxDeep - 1 {
		quiet = slices.Repeat([]api.Stmt{{Kind: api.If, E: plain, A: quiet, B: quiet}}, api.MaxBody)
	}
	p := prog(let("x"), quiet[0], let("y"), quiet[1], let("z"))
	q, f := Program(p)
	if f != (api.Fault{}) || !tree.Same(q, fillTop(p, nil)) {
		t.Errorf("quiet: %v", f)
	}
	if q := Filled(p, owners("a", "b")); !tree.Same(q, fillTop(p, owners("a", "b"))) {
		t.Error("quiet: it isn't what was handed in")
	}
	// So many labels that the last ones go to lists that have been laid before.
	l := []api.Stmt{let("x")}
	for range 60 {
		l = []api.Stmt{{Kind: api.If, A: l, B: l}}
	}
	have := make([]api.Label, most)
	for i := range have {
		have[i] = api.Label{{Owner: fmt.Sprint("c", i)}}
	}
	seen := 0
	var walk func(l []api.Stmt)
	walk = func(l []api.Stmt) {
		for i := range l {
			if seen == most+1000 {
				return
			}
			if s := l[i]; s.Kind == api.Let {
				var want api.Label
				if seen < most {
					want = have[seen]
				}
				if !s.Labelled || whole(s.L) != whole(want) {
					t.Fatalf("%d: %v, want %v", seen, s.L, want)
				}
				seen++
			}
			walk(l[i].A)
			walk(l[i].B)
		}
	}
	walk(Filled(prog(l...), have).Procs[0].Body)
	if seen != most+1000 {
		t.Errorf("%d Lets", seen)
	}
}

// fillTop answers what Filled should, if no Let lies within others.
func fillTop(p api.Program, have []api.Label) api.Program {
	p.Procs = slices.Clone(p.Procs)
	p.Procs[0].Body = slices.Clone(p.Procs[0].Body)
	for i := range p.Procs[0].Body {
		if s := &p.Procs[0].Body[i]; s.Kind == api.Let {
			s.Labelled = true
			if len(have) > 0 {
				s.L, have = have[0], have[1:]
			}
		}
	}
	return p
}
