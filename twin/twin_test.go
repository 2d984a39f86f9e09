package twin

import (
	"math"
	"reflect"
	"slices"
	"strings"
	"testing"

	"cloister/api"
	"cloister/check"
	"cloister/parse"
	"cloister/run"
	"cloister/scope"
	"cloister/tree"
	"cloister/view"
)

// house stands ahead of procedures: what comes in at s is a's, at t a's for b, at u for all; o goes out to all, e to a and b, d to a.
const house = "chief a; chief b; chief c; in s: int {a:}; in t: bool {a:b}; in u: int {}; out o: int {}; out e: int {a:b}; out d: int {a:}; "

// around answers a program with a main of these statements, or of these procedures.
func around(s string) string {
	if strings.Contains(s, "proc main") {
		return house + s
	}
	return house + "proc main() for a { var x = 0; var y = 0; var z = true; " + s + " }"
}

// P14.1

// held: Apart answers this, and the same the other way round.
func held(t *testing.T, what any, p api.Program, who string, a, b [][]int, fuel int, apart, kept bool) {
	t.Helper()
	for range 2 {
		x, y, f := Apart(p, who, a, b, fuel)
		if x != apart || y != kept || f != (api.Fault{}) {
			t.Errorf("%v, for %s, %v, %v, %d: %v, %v, %v, want %v, %v", what, who, a, b, fuel, x, y, f, apart, kept)
		}
		a, b = b, a
	}
}

// TestApart: what somebody sees of two runs.
func TestApart(t *testing.T) {
	const yes, no = true, false
	for _, c := range []struct {
		s, who, a, b string
		apart, kept  bool
	}{
		{"", "b", "s=1", "s=2", no, yes},
		{"take x s; send o x;", "b", "s=1", "s=2", yes, yes},
		{"take x s; send o x;", "a", "s=1", "s=2", yes, yes},
		{"take x s; send o x;", "b", "s=1", "s=1", no, yes},
		{"take x s; send o x;", "b", "s=1 u=1", "s=1 u=2", no, yes},
		{"take x s; send o x;", "b", "s=1,2", "s=1,3", no, yes},
		{"take x s; send o x;", "b", "", "s=0", no, yes},
		{"take x s; send o x * 0;", "b", "s=1", "s=2", no, yes},
		{"take x s; send o 1; send o x; send o 3;", "b", "s=1", "s=2", yes, yes},
		{"take x u; send o x;", "c", "u=1", "u=2", yes, yes},
		// Only what they see counts.
		{"take x s; send d x;", "a", "s=1", "s=2", yes, yes},
		{"take x s; send d x;", "b", "s=1", "s=2", no, yes},
		{"take x s; send e x;", "b", "s=1", "s=2", yes, yes},
		{"take x s; send e x;", "c", "s=1", "s=2", no, yes},
		{"take x s; send o 1; send d x; send e x; send o 2;", "c", "s=1", "s=2", no, yes},
		{"take x s; send o 1; send d x; send o 2;", "b", "s=1", "s=2", no, yes},
		{"take x s; send o 1; if x > 0 { send d 2; } send o 3;", "b", "s=0", "s=1", no, yes},
		{"take x s; send o 1; if x > 0 { send d 2; } send o 3;", "a", "s=0", "s=1", yes, yes},
		// The channel counts, not the number alone.
		{"take x s; if x > 0 { send o 1; } else { send e 1; }", "b", "s=0", "s=1", yes, yes},
		{"take x s; if x > 0 { send e 1; } else { send d 1; }", "a", "s=0", "s=1", yes, yes},
		{"take x s; if x > 0 { send e 1; } else { send d 1; }", "c", "s=0", "s=1", no, yes},
		{"take x s; if x > 0 { send o 1; send e 1; } else { send e 1; send o 1; }", "b", "s=0", "s=1", yes, yes},
		{"take x s; if x > 0 { send o 1; send e 1; } else { send e 1; send o 1; }", "c", "s=0", "s=1", no, yes},
		// Both are Done: they don't see as many.
		{"take x s; if x > 0 { send o 1; }", "b", "s=0", "s=1", yes, yes},
		{"take x s; send o 1; if x > 0 { send o 1; }", "b", "s=0", "s=1", yes, yes},
		{"take x s; while x > 0 { send o 1; x = x - 1; }", "b", "s=2", "s=3", yes, yes},
		{"take x s; while x > 0 { send d 1; x = x - 1; }", "b", "s=2", "s=3", no, yes},
		// One isn't: it sees fewer, or more, as long as one begins the other.
		{"take x s; send o 1; while x > 0 { } send o 2;", "b", "s=0", "s=1", no, yes},
		{"take x s; while x > 0 { send o 1; }", "b", "s=0", "s=1", no, yes},
		{"take x s; while x > 0 { send o 1; } send o 1;", "b", "s=0", "s=1", no, yes},
		{"take x s; while x > 0 { send o 1; } send o 2;", "b", "s=0", "s=1", yes, yes},
		{"take x s; while x > 0 { send d 1; } send o 2;", "b", "s=0", "s=1", no, yes},
		{"take x s; while x > 0 { send d 1; } send o 2;", "a", "s=0", "s=1", yes, yes},
		{"proc f() { do f(); } proc main() { var x = 0; take x s; send o 1; if x > 0 { do f(); } send o 2; }", "b", "s=0", "s=1", no, yes},
		{"proc f() { send o 3; do f(); } proc main() { var x = 0; take x s; send o 1; if x > 0 { do f(); } send o 2; }", "b", "s=0", "s=1", yes, yes},
		// Neither is.
		{"take x s; while true { send o x; }", "b", "s=1", "s=2", yes, yes},
		{"take x s; while true { send o 1; if x > 0 { y = 1; } }", "b", "s=0", "s=1", no, yes},
		{"take x s; while true { send o 1; if x > 0 { send d 1; } }", "b", "s=0", "s=1", no, yes},
		{"take x s; while true { send o 1; if x > 0 { send d 1; } }", "a", "s=0", "s=1", yes, yes},
		// Numbers of Bool are 0 or 1.
		{"take z t; if z { send o 1; } else { send o 2; }", "c", "t=1", "t=-7", no, yes},
		{"take z t; if z { send o 1; } else { send o 2; }", "c", "t=1", "t=0", yes, yes},
	} {
		p := read(t, around(c.s))
		held(t, c.s, p, c.who, lists(t, p, c.a), lists(t, p, c.b), 200, c.apart, c.kept)
	}
}

// TestKept: what is released to somebody in two runs.
func TestKept(t *testing.T) {
	const yes, no = true, false
	for _, c := range []struct {
		s, who, a, b string
		apart, kept  bool
	}{
		{"take x s; send o release(x to {});", "b", "s=1", "s=2", yes, no},
		{"take x s; send o release(x to {});", "a", "s=1", "s=2", yes, no},
		{"take x s; send o release(x to {});", "b", "s=1", "s=1", no, yes},
		{"take x s; if release(x > 0 to {}) { send o 1; }", "b", "s=1", "s=2", no, yes},
		{"take x s; if release(x > 0 to {}) { send o 1; }", "b", "s=0", "s=2", yes, no},
		{"take x s; z = release(x > 0 to {});", "b", "s=1", "s=2", no, yes},
		{"take x s; z = release(x > 0 to {});", "b", "s=0", "s=2", yes, no},
		// Only what they see counts.
		{"take x s; y = release(x to {a:});", "b", "s=1", "s=2", no, yes},
		{"take x s; y = release(x to {a:});", "a", "s=1", "s=2", yes, no},
		{"take x s; y = release(x to {a:b});", "b", "s=1", "s=2", yes, no},
		{"take x s; y = release(x to {a:b});", "c", "s=1", "s=2", no, yes},
		{"take x s; y = release(x to {a:}); y = release(7 to {}); send o y;", "b", "s=1", "s=2", no, yes},
		{"take x s; y = release(x to {a:}); send o x;", "b", "s=1", "s=2", yes, yes},
		{"take x s; y = release(x to {a:}); send o x;", "a", "s=1", "s=2", yes, no},
		// What goes out by channels doesn't.
		{"take x s; y = release(1 to {}); send o x;", "b", "s=1", "s=2", yes, yes},
		{"take x s; send o x; y = release(1 to {}); send o x;", "b", "s=1", "s=2", yes, yes},
		{"take x s; if x > 0 { y = release(1 to {}); send o 2; } else { send o 2; y = release(1 to {}); }", "b", "s=0", "s=1", yes, yes},
		{"take x s; if x > 0 { y = release(1 to {}); send o 2; } else { send o 2; y = release(3 to {}); }", "b", "s=0", "s=1", yes, no},
		{"take x s; if x > 0 { y = release(1 to {}); y = release(2 to {}); } else { y = release(2 to {}); y = release(1 to {}); }", "b", "s=0", "s=1", yes, no},
		{"take x s; y = release(5 to {}); y = release(x to {});", "b", "s=0", "s=1", yes, no},
		// A release is no number that goes out.
		{"take x s; if x > 0 { y = release(1 to {}); } else { send o 1; }", "b", "s=0", "s=1", yes, yes},
		// One begins the other: they are kept, however many they are, Done or not.
		{"take x s; if x > 0 { y = release(1 to {}); }", "b", "s=0", "s=1", yes, yes},
		{"take x s; y = release(1 to {}); if x > 0 { y = release(2 to {}); }", "b", "s=0", "s=1", yes, yes},
		{"take x s; while x > 0 { y = release(1 to {}); x = x - 1; }", "b", "s=2", "s=3", yes, yes},
		{"take x s; while x > 0 { } y = release(x to {});", "b", "s=0", "s=1", no, yes},
		{"take x s; while x > 0 { y = release(1 to {}); }", "b", "s=0", "s=1", no, yes},
		{"take x s; while true { y = release(x to {}); }", "b", "s=0", "s=1", yes, no},
		{"take x s; while x > 0 { y = release(1 to {}); } y = release(2 to {});", "b", "s=0", "s=1", yes, no},
	} {
		p := read(t, around(c.s))
		held(t, c.s, p, c.who, lists(t, p, c.a), lists(t, p, c.b), 200, c.apart, c.kept)
	}
}

// TestActs: who acts for others sees what they see.
func TestActs(t *testing.T) {
	const s = "proc main() for a { var x = 0; take x s; send d x; x = release(x to {a:}); }"
	for acts, want := range map[string]string{
		"":                                "a",
		"acts b a; ":                      "ab",
		"acts c b; acts b a; ":            "abc",
		"acts a b; acts c b; ":            "a",
		"acts a c; acts c a; acts b b; ":  "ac",
		"acts b c; acts c a; acts a c; ":  "abc",
		"acts c c; acts a a; acts a b; ":  "a",
		"acts b a; acts b a; acts a c;  ": "ab",
	} {
		p := read(t, house+acts+s)
		for _, who := range p.Chiefs {
			sees := strings.Contains(want, who)
			held(t, acts, p, who, lists(t, p, "s=1"), lists(t, p, "s=2"), 100, sees, !sees)
		}
	}
}

// TestFuel: how far runs go, step by step.
func TestFuel(t *testing.T) {
	for _, c := range []struct {
		s, a, b     string
		apart, kept func(fuel int) bool
	}{
		// What stands ahead in main has 6 steps. The first of these tells 1 in the 9th, and x in the 11th.
		{"take x s; send o 1; send o x;", "s=1", "s=2", from(11), from(0)},
		{"take x s; send o 1; send o release(x to {});", "s=1", "s=2", from(12), upTo(11)},
		{"take x s; y = release(1 to {}); y = release(x to {});", "s=1", "s=2", from(13), upTo(12)},
		// The shorter one is Done with 11 steps, the other one with 13.
		{"take x s; if x > 0 { send o 1; }", "s=0", "s=1", from(13), from(0)},
		{"take x s; if x > 0 { y = release(1 to {}); }", "s=0", "s=1", from(14), from(0)},
		// The one that tells is Done ahead of the other one.
		{"take x s; if x > 0 { send o 1; } else { y = 1 + 2 * 3 - y; }", "s=0", "s=1", from(19), from(0)},
		{"send o 1;", "s=0", "s=1", never, from(0)},
	} {
		p := read(t, around(c.s))
		a, b := lists(t, p, c.a), lists(t, p, c.b)
		for fuel := range 40 {
			held(t, c.s, p, "b", a, b, fuel, c.apart(fuel), c.kept(fuel))
		}
		held(t, c.s, p, "b", a, b, api.MaxSteps, c.apart(api.MaxSteps), c.kept(api.MaxSteps))
	}
}

func from(n int) func(int) bool { return func(fuel int) bool { return fuel >= n } }

func upTo(n int) func(int) bool { return func(fuel int) bool { return fuel <= n } }

func never(int) bool { return false }

// TestApartMade holds Apart against the words of the chapter, told by texts.
func TestApartMade(t *testing.T) {
	count := map[[2]bool]int{}
	for i := range 1500 {
		m := newMaker(i, []int{2, 4}[i%2], []int{3, 4, 6}[i%3])
		p := m.program()
		if scope.Check(p).Code != api.OK {
			continue
		}
		for _, who := range p.Chiefs {
			fuel := []int{400, 100, m.roll(60)}[m.roll(3)]
			a, b := m.inputs(), m.inputs()
			if m.roll(2) == 0 {
				b = m.other(p, who, a)
			}
			apart, kept := differ(p, who, a, b, fuel)
			held(t, i, p, who, a, b, fuel, apart, kept)
			held(t, i, p, who, a, a, fuel, false, true)
			if t.Failed() {
				t.Fatal(printed(p))
			}
			count[[2]bool{apart, kept}]++
		}
	}
	// Of runs that aren't apart all releases are kept.
	if count[[2]bool{true, true}] < 500 || count[[2]bool{true, false}] < 400 || count[[2]bool{false, true}] < 1000 || count[[2]bool{false, false}] > 0 {
		t.Errorf("%v", count)
	}
}

// refused: Apart answers that fault, and nothing else.
func refused(t *testing.T, what any, p api.Program, who string, a, b [][]int, fuel int, want api.Fault) {
	t.Helper()
	if apart, kept, f := Apart(p, who, a, b, fuel); f != want || apart || kept {
		t.Errorf("%v: %v, %v, %v, want %v", what, apart, kept, f, want)
	}
}

// wrong has programs and lists with which there is no run, and some with which there is one.
type wrong struct {
	right, twice, lost     api.Program
	in, few, more, out, up [][]int
}

func wrongs(t *testing.T) wrong {
	w := wrong{
		right: read(t, around("take x s; send o x;")),
		twice: read(t, house+"proc main() { var x = 1; var x = 2; }"),
		lost:  read(t, house+"proc f() { }"),
		in:    make([][]int, 6), few: make([][]int, 5), more: make([][]int, 7), out: make([][]int, 6), up: make([][]int, 6),
	}
	w.out[3], w.up[0] = []int{1}, make([]int, api.MaxInputs+1)
	return w
}

// TestApartFaults: what is wrong, and what of it is told first.
func TestApartFaults(t *testing.T) {
	w := wrongs(t)
	for _, c := range []struct {
		what string
		p    api.Program
		who  string
		a, b [][]int
		fuel int
		want api.Fault
	}{
		{"nothing", api.Program{}, "", nil, nil, 0, api.Fault{Code: api.ErrWho}},
		{"a place", w.twice, "b", w.in, w.in, 10, api.Fault{Code: api.ErrTwice, At: len(house) + len("proc main() { var x = 1; ")}},
		{"no main", w.lost, "b", w.in, w.in, 10, api.Fault{Code: api.ErrWho}},
		{"no lists of a", w.right, "b", nil, w.in, 10, api.Fault{Code: api.ErrForm}},
		{"no lists of b", w.right, "b", w.in, nil, 10, api.Fault{Code: api.ErrForm}},
		{"few lists", w.right, "b", w.in, w.few, 10, api.Fault{Code: api.ErrForm}},
		{"more lists", w.right, "b", w.in, w.more, 10, api.Fault{Code: api.ErrForm}},
		{"few lists of both", w.right, "b", w.few, w.few, 10, api.Fault{Code: api.ErrForm}},
		{"what goes out, of a", w.right, "b", w.out, w.in, 10, api.Fault{Code: api.ErrForm}},
		{"what goes out, of b", w.right, "b", w.in, w.out, 10, api.Fault{Code: api.ErrForm}},
		{"many numbers of a", w.right, "b", w.up, w.in, 10, api.Fault{Code: api.ErrMany}},
		{"many numbers of b", w.right, "b", w.in, w.up, 10, api.Fault{Code: api.ErrMany}},
		{"no fuel", w.right, "b", w.in, w.in, -1, api.Fault{Code: api.ErrRange}},
		{"far below", w.right, "b", w.in, w.in, math.MinInt, api.Fault{Code: api.ErrRange}},
		{"much fuel", w.right, "b", w.in, w.in, api.MaxSteps + 1, api.Fault{Code: api.ErrRange}},
		{"far above", w.right, "b", w.in, w.in, math.MaxInt, api.Fault{Code: api.ErrRange}},
		{"nobody", w.right, "z", w.in, w.in, 10, api.Fault{Code: api.ErrWho}},
		{"no name", w.right, "", w.in, w.in, 10, api.Fault{Code: api.ErrWho}},
		{"nothing happens", w.right, "z", w.in, w.in, 0, api.Fault{Code: api.ErrWho}},
		// Which is first.
		{"the program, then a", w.twice, "b", w.up, w.in, 10, scope.Check(w.twice)},
		{"the program, then all", w.twice, "z", w.up, w.out, -1, scope.Check(w.twice)},
		{"a, then b", w.right, "b", w.out, w.up, 10, api.Fault{Code: api.ErrForm}},
		{"a, then b, the other way round", w.right, "b", w.up, w.out, 10, api.Fault{Code: api.ErrMany}},
		{"a, then fuel", w.right, "b", w.up, w.in, -1, api.Fault{Code: api.ErrMany}},
		{"fuel, then b", w.right, "b", w.in, w.up, -1, api.Fault{Code: api.ErrRange}},
		{"a, then who", w.right, "z", w.up, w.in, 10, api.Fault{Code: api.ErrMany}},
		{"fuel, then who", w.right, "z", w.in, w.in, -1, api.Fault{Code: api.ErrRange}},
		{"b, then who", w.right, "z", w.in, w.up, 10, api.Fault{Code: api.ErrMany}},
	} {
		refused(t, c.what, c.p, c.who, c.a, c.b, c.fuel, c.want)
	}
	w.up[0] = w.up[0][1:]
	held(t, "as many numbers as may be", w.right, "b", w.in, w.up, 10, false, true)
	held(t, "no fuel", w.right, "b", w.in, w.up, 0, false, true)
	held(t, "all fuel", w.right, "b", w.in, w.up, api.MaxSteps, false, true)
	// A program may have no channels.
	p := read(t, "chief a; proc main() { }")
	held(t, "no channels", p, "a", nil, [][]int{}, 10, false, true)
	refused(t, "a list", p, "a", nil, [][]int{nil}, 10, api.Fault{Code: api.ErrForm})
	refused(t, "nobody at all", read(t, "proc main() { }"), "a", nil, nil, 10, api.Fault{Code: api.ErrWho})
}

// P14.2

// found: Find answers this.
func found(t *testing.T, what any, p api.Program, who string, l [][][]int, fuel, i, k int, want api.Fault) {
	t.Helper()
	if x, y, f := Find(p, who, l, fuel); x != i || y != k || f != want {
		t.Errorf("%v, for %s: %d, %d, %v, want %d, %d, %v", what, who, x, y, f, i, k, want)
	}
}

// TestFind: the first two inputs that aren't to be told apart, but are.
func TestFind(t *testing.T) {
	const tells = "take x s; send o x;"
	for _, c := range []struct {
		s, who, l string
		i, k      int
	}{
		{tells, "b", "s=1 | s=2", 0, 1},
		{tells, "b", "s=1 | s=1", -1, -1},
		{tells, "b", "s=1 | s=1 | s=2", 0, 2},
		{tells, "b", "s=1 | s=1 | s=1 | s=1", -1, -1},
		{tells, "b", "s=1 | s=2 | s=3", 0, 1},
		// By k first, then by i.
		{tells, "b", "s=1 u=1 | s=1 | s=2 | s=2 u=1", 1, 2},
		{tells, "b", "s=1 u=1 | s=1 u=2 | s=2 u=2 | s=2 u=1", 1, 2},
		{tells, "b", "s=1 u=1 | s=1 u=2 | s=1 u=3 | s=2 u=2 | s=2 u=1", 1, 3},
		{tells, "b", "s=1 u=1 | s=1 u=2 | s=1 u=3 | s=2 u=1 | s=2 u=2", 0, 3},
		{tells, "b", "s=1 u=1 | s=2 u=2 | s=1 u=3 | s=2 u=3", 2, 3},
		{tells, "b", "s=1 | s=1 u=2 | s=1 u=3 | s=1 | s=2", 0, 4},
		// Inputs that they can tell apart aren't asked.
		{tells, "b", "s=1 u=1 | s=2 u=2", -1, -1},
		{tells, "b", "s=1 t=1 | s=2 t=2", -1, -1},
		{tells, "c", "s=1 t=1 | s=2 t=2", 0, 1},
		{tells, "c", "s=1 u=1 | s=2 u=2 | s=3", -1, -1},
		{tells, "a", "s=1 | s=2 | s=3 | s=4", -1, -1},
		{"take x u; send o x;", "c", "u=1 | u=2 | u=3", -1, -1},
		// What never is taken counts as input all the same, also where it makes no difference.
		{"take z t; send d 1; if z { send e 1; }", "c", "t=1 | t=0", -1, -1},
		{"take z t; if z { send o 1; }", "c", "t=1,1 | t=2,1 | t=1 | t=0", 0, 3},
		{"take z t; if z { send o 1; }", "b", "t=1,1 | t=2,1 | t=1 | t=0", -1, -1},
		// Whether releases are kept isn't asked.
		{"take x s; send o release(x to {});", "b", "s=1 | s=2", 0, 1},
		{"take x s; y = release(x to {a:b});", "b", "s=1 | s=1 | s=2", 0, 2},
		{"take x s; y = release(x to {a:b});", "c", "s=1 | s=1 | s=2", -1, -1},
		// As far as one begins the other, they aren't apart.
		{"take x s; while x > 0 { send o 1; }", "b", "s=0 | s=1 | s=2", -1, -1},
		{"take x s; while x > 0 { send o 1; x = x - 1; }", "b", "s=0 | s=-1 | s=2 | s=1", 0, 2},
		{"send o 1;", "b", "s=1 | s=2 | t=1 | u=1", -1, -1},
	} {
		p := read(t, around(c.s))
		found(t, c.s+" "+c.l, p, c.who, many(t, p, c.l), 300, c.i, c.k, api.Fault{})
	}
}

// TestFindFaults: what is wrong, and what of it is told first.
func TestFindFaults(t *testing.T) {
	w := wrongs(t)
	far := lists(t, w.right, "s=5")
	near := lists(t, w.right, "s=5 u=1")
	none, form, much := api.Fault{}, api.Fault{Code: api.ErrForm}, api.Fault{Code: api.ErrMany}
	nobody, fuel := api.Fault{Code: api.ErrWho}, api.Fault{Code: api.ErrRange}
	type ins = [][][]int
	for _, c := range []struct {
		what string
		p    api.Program
		who  string
		l    ins
		fuel int
		i, k int
		want api.Fault
	}{
		{"a place", w.twice, "b", ins{w.in, w.in}, 20, 0, 0, scope.Check(w.twice)},
		{"no main", w.lost, "b", ins{w.in, w.in}, 20, 0, 0, nobody},
		{"fuel", w.right, "b", ins{w.in, far}, -1, 0, 0, fuel},
		{"much fuel", w.right, "b", ins{w.in, far}, api.MaxSteps + 1, 0, 0, fuel},
		{"nobody", w.right, "z", ins{w.in, far}, 20, 0, 0, nobody},
		{"lists", w.right, "b", ins{nil, nil}, 20, 0, 0, form},
		// Two by two: the first one's, then the second one's, then who.
		{"the first", w.right, "b", ins{w.out, w.up}, 20, 0, 0, form},
		{"the first, the other way round", w.right, "b", ins{w.up, w.out}, 20, 0, 0, much},
		{"the first alone", w.right, "b", ins{w.up, w.in}, 20, 0, 0, much},
		{"the second", w.right, "b", ins{w.in, w.up, w.out}, 20, 0, 0, much},
		{"the second, then who", w.right, "z", ins{w.in, w.up}, 20, 0, 0, much},
		{"who, then the third", w.right, "z", ins{w.in, w.in, w.up}, 20, 0, 0, nobody},
		{"fuel, then the second", w.right, "b", ins{w.in, w.up}, -1, 0, 0, fuel},
		{"the first, then fuel", w.right, "b", ins{w.up, w.in}, -1, 0, 0, much},
		{"the third", w.right, "b", ins{w.in, w.in, w.few}, 20, 0, 0, form},
		{"the third, where the second can be told", w.right, "b", ins{w.in, near, w.up}, 20, 0, 0, much},
		// What is found ahead of a fault is the answer, and not behind one.
		{"found", w.right, "b", ins{w.in, far, w.up}, 20, 0, 1, none},
		{"found third", w.right, "b", ins{w.in, near, far, nil}, 20, 0, 2, none},
		{"a fault, then far", w.right, "b", ins{w.in, w.more, far}, 20, 0, 0, form},
		// No two: nothing is asked.
		{"none", w.right, "b", nil, 20, -1, -1, none},
		{"none at all", api.Program{}, "", ins{}, -1, -1, -1, none},
		{"one", w.right, "b", ins{w.in}, 20, -1, -1, none},
		{"one of no program", w.twice, "z", ins{w.up}, -1, -1, -1, none},
	} {
		found(t, c.what, c.p, c.who, c.l, c.fuel, c.i, c.k, c.want)
	}
}

// TestFindMost: as many inputs as may be, and one more.
func TestFindMost(t *testing.T) {
	w := wrongs(t)
	l := slices.Repeat([][][]int{w.in}, api.MaxBody)
	found(t, "all the same", w.right, "b", l, 100, -1, -1, api.Fault{})
	l[api.MaxBody-1] = lists(t, w.right, "s=1")
	found(t, "the last", w.right, "b", l, 100, 0, api.MaxBody-1, api.Fault{})
	for i := range api.MaxBody - 2 {
		l[i] = lists(t, w.right, "u=1")
	}
	found(t, "the last two", w.right, "b", l, 100, api.MaxBody-2, api.MaxBody-1, api.Fault{})
	much := api.Fault{Code: api.ErrMany}
	found(t, "one more", w.right, "b", append(slices.Clone(l), w.in), 100, 0, 0, much)
	// It is told ahead of all else, and though it lies behind what is found.
	l = slices.Repeat([][][]int{w.out}, api.MaxBody+1)
	found(t, "one more, then all", w.twice, "z", l, -1, 0, 0, much)
	l = slices.Repeat([][][]int{w.in}, api.MaxBody+1)
	l[1] = lists(t, w.right, "s=1")
	found(t, "one more, then found", w.right, "b", l, 100, 0, 0, much)
	found(t, "found", w.right, "b", l[:api.MaxBody], 100, 0, 1, api.Fault{})
}

// first answers what Find should of inputs without a fault.
func first(p api.Program, who string, l [][][]int, fuel int) (int, int) {
	for k := range l {
		for i := range k {
			if apart, _ := differ(p, who, l[i], l[k], fuel); apart && matching(p, who, l[i], l[k]) {
				return i, k
			}
		}
	}
	return -1, -1
}

// TestFindMade holds Find against the words of the chapter, told by texts.
func TestFindMade(t *testing.T) {
	count := map[[2]int]int{}
	for i := range 1500 {
		m := newMaker(i, 2, []int{3, 4, 6}[i%3])
		p := m.program()
		if scope.Check(p).Code != api.OK {
			continue
		}
		who, fuel := m.who(), []int{200, m.roll(60)}[m.roll(2)]
		l := [][][]int{m.inputs()}
		for range m.roll(6) {
			a := m.inputs()
			if m.roll(3) > 0 {
				a = m.other(p, who, l[m.roll(len(l))])
			}
			l = append(l, a)
		}
		x, y := first(p, who, l, fuel)
		found(t, i, p, who, l, fuel, x, y, api.Fault{})
		if t.Failed() {
			t.Fatalf("%v: %s", l, printed(p))
		}
		count[[2]int{x, y}]++
	}
	if count[[2]int{-1, -1}] < 200 || count[[2]int{0, 1}] < 100 || len(count) < 10 {
		t.Errorf("%v", count)
	}
}

// P14.3

// leak answers two of the inputs l that show somebody what they may not read, though all that was released to them was the same.
func leak(t *testing.T, p api.Program, l [][][]int, fuel int) (who string, i, k int) {
	t.Helper()
	for _, who := range p.Chiefs {
		for i := range l {
			for k := range l {
				alike, code := view.Alike(p, who, l[i], l[k])
				apart, kept, f := Apart(p, who, l[i], l[k], fuel)
				if code != api.OK || f.Code != api.OK {
					t.Fatal(code, f)
				}
				if alike && kept && apart {
					return who, i, k
				}
			}
		}
	}
	return "", -1, -1
}

// TestTaken: programs that chapter 9 takes tell nobody what they may not read; of others some do.
func TestTaken(t *testing.T) {
	const inputs = "| s=0 | s=1 | s=2 | s=-1,3 | s=1,1 | s=2,0,1 | s=1 u=1 | s=2 u=1 | s=0 u=3,4 | s=1 u=3,4 | s=9 u=3,4 | t=1 | s=1 t=0 | s=1 t=1 | s=2 t=1,1 u=1"
	for _, c := range []struct {
		s            string
		want         api.Errno
		leaks, apart bool // apart: kept or not
	}{
		{"take x s; send d x; send o 1;", api.OK, false, false},
		{"take x s; if x > 0 { send d 1; } send o 1;", api.OK, false, false},
		{"take x s; while x > 0 { send d x; x = x - 1; } send o 7; take y u; send o y;", api.OK, false, false},
		{"take x s; send o 1; while x != 1 { } send o 7;", api.OK, false, false},
		{"take x s; while x != 1 { send d 1; } send o 7; send e 8;", api.OK, false, false},
		{"take y u; send o y; take x s; send d x + y; send e y;", api.OK, false, false},
		{"take z t; if z { send e 1; } else { send e 2; } take x u; send o x;", api.OK, false, false},
		{"take x s; if x > 0 { take x s; take x s; } take y u; send o y; send d x;", api.OK, false, false},
		{"take x s; if x > 0 { y = release(x to {a:}); } send o 1; send d y;", api.OK, false, false},
		{"proc f(n: int {a:}): int {a:} begin {a:} { send d n; return n; } proc main() { var x = 0; take x s; if x > 0 { do f(x); } send d f(1); send o 2; }", api.OK, false, false},
		{"proc f(n: int {a:}) begin {a:} { if n != 0 { do f(n); } } proc main() { var x = 0; take x s; send o 1; do f(x); send o 2; }", api.OK, false, false},
		{"proc f(n: int {}): int {} { send o n; return n + 1; } proc main() { var x = 0; take x s; var y = 0; take y u; send d x + f(y); }", api.OK, false, false},
		{"proc main() begin {a:} { var x = 0; take x s; send d x; }", api.OK, false, false},
		// What is released is told; but no more than that.
		{"take x s; y = release(x to {}); send o y;", api.OK, false, true},
		{"take x s; z = release(x > 0 to {}); if z { send o 1; }", api.OK, false, true},
		{"take x s; while release(x > 0 to {}) { send o 1; x = x - 1; }", api.OK, false, true},
		{"take x s; y = release(x to {a:b}); send e y; send o 1;", api.OK, false, true},
		{"take x s; take y u; send o release(x * y to {}); send d x;", api.OK, false, true},
		// Too much.
		{"take x s; send o x;", api.ErrFlow, true, true},
		{"take x s; send e x;", api.ErrFlow, true, true},
		{"take z t; if z { send o 1; }", api.ErrFlow, true, true},
		{"take x s; if x > 0 { send o 1; }", api.ErrFlow, true, true},
		{"take x s; if x > 0 { y = 1; } send o y;", api.ErrFlow, true, true},
		{"take x s; if x > 0 { take y u; } var w {} = 0; take w u; send o w;", api.ErrFlow, true, true},
		{"take x s; if x > 0 { z = release(true to {}); }", api.ErrFlow, true, true},
		{"take x s; z = release(x > 0 to {}); send o x;", api.ErrFlow, true, true},
		{"proc f() { send o 1; } proc main() { var x = 0; take x s; if x > 0 { do f(); } }", api.ErrFlow, true, true},
		{"proc f(n: int {}) { send o n; } proc main() { var x = 0; take x s; do f(x); }", api.ErrFlow, true, true},
		{"proc f(): int {} { var x = 0; take x s; return x; } proc main() { send o f(); }", api.ErrFlow, true, true},
		{"take x s; y = release(1 to {}); send o x + y;", api.ErrFlow, true, true},
		// Without authority: as if it were released.
		{"proc main() for b, c { var x = 0; take x s; send o release(x to {}); }", api.ErrMay, false, true},
		// It is refused, but does no harm.
		{"take x s; send o x * 0;", api.ErrFlow, false, false},
		{"take x s; x = 1; send o x;", api.ErrFlow, false, false},
	} {
		p := read(t, around(c.s))
		l := many(t, p, inputs)
		_, f := check.Program(p)
		who, i, k := leak(t, p, l, 300)
		if f.Code != c.want || (i >= 0) != c.leaks {
			t.Errorf("%s: %v, for %q %d, %d", c.s, f, who, i, k)
		}
		some := false
		for _, who := range p.Chiefs {
			i, _, _ := Find(p, who, l, 300)
			some = some || i >= 0
		}
		if some != c.apart {
			t.Errorf("%s: found: %v", c.s, some)
		}
	}
}

// tally counts what was met, so that what is promised isn't true of nothing.
type tally struct {
	pairs, seen, moved, released, unkept, cut int
}

// enough: were there many runs of which somebody sees something, though what they may not read is another one (moved: and others see that), is released, or ends one of them?
func (n tally) enough() bool {
	return n.seen > 1000 && n.moved > 200 && n.released > 500 && n.unkept > 10 && n.cut > 20
}

// safe: nobody learns by what they may read in p, which chapter 9 takes, anything of what they may not, but what is released.
func (n *tally) safe(t *testing.T, m *maker, p api.Program) {
	t.Helper()
	for _, who := range p.Chiefs {
		fuel := []int{api.MaxSteps, 500, 500, 500, 500, m.roll(100)}[m.roll(6)]
		a := m.inputs()
		b := m.other(p, who, a)
		if ok, code := view.Alike(p, who, a, b); !ok || code != api.OK {
			t.Fatal(who, a, b, code)
		}
		apart, kept, f := Apart(p, who, a, b, fuel)
		if f.Code != api.OK || apart && kept {
			t.Fatalf("for %s, %v, %v, %d: %v, %v, %v: %s", who, a, b, fuel, apart, kept, f, printed(p))
		}
		x, _ := run.Program(p, a, fuel)
		y, _ := run.Program(p, b, fuel)
		s := tell(p, who, a, fuel)
		n.pairs++
		n.seen += one(s.all != "" && kept)
		n.moved += one(s.all != "" && kept && whole(x.Events) != whole(y.Events))
		n.released += one(s.released != "" && kept)
		n.unkept += one(!kept)
		n.cut += one(s.all != "" && x.Done != y.Done)
	}
}

// TestTakenMade: as TestTaken, of made programs out of which was taken what chapter 9 doesn't take; then with others who act for one another, too.
func TestTakenMade(t *testing.T) {
	var n, others tally
	leaks := 0
	for i := range 1200 {
		m := newMaker(i, []int{20, 20, 20, 3}[i%4], []int{3, 4, 5}[i%3])
		p := m.program()
		who, a := m.who(), m.inputs()
		apart, kept, _ := Apart(p, who, a, m.other(p, who, a), 500)
		leaks += one(apart && kept)
		p, ok := m.mended()
		if !ok {
			continue
		}
		n.safe(t, m, p)
		p.Acts = append(slices.Clone(p.Acts), m.pairs(7)...)
		if _, f := check.Program(p); f.Code != api.OK {
			t.Fatalf("%d: %v: %s", i, f, printed(p))
		}
		others.safe(t, m, p)
	}
	if !n.enough() || !others.enough() || leaks < 40 {
		t.Errorf("%+v, with others %+v; %d of the programs told too much as they were made", n, others, leaks)
	}
}

// TestTakenFind: of programs that chapter 9 takes, and that release nothing, Find finds none, whatever comes in.
func TestTakenFind(t *testing.T) {
	programs, told := 0, 0
	for i := range 400 {
		m := newMaker(i, []int{20, 3}[i%2], 3)
		m.quiet = true
		p := m.program()
		inputs := map[string][][][]int{}
		for _, who := range p.Chiefs {
			l := [][][]int{m.inputs()}
			for range 3 {
				l = append(l, m.other(p, who, l[0]), m.inputs())
			}
			inputs[who] = l
			_, k, _ := Find(p, who, l, 300)
			told += one(k > 0)
		}
		p, ok := m.mended()
		if !ok {
			continue
		}
		programs++
		for _, who := range p.Chiefs {
			found(t, i, p, who, inputs[who], 300, -1, -1, api.Fault{})
		}
		if t.Failed() {
			t.Fatal(printed(p))
		}
	}
	if programs < 350 || told < 20 {
		t.Errorf("%d; as they were made %d told too much", programs, told)
	}
}

// P1 to P3

// TestAny: whatever is handed in.
func TestAny(t *testing.T) {
	right := 0
	small := read(t, "chief x; in i: int {x:}; out o: int {}; proc main() { var x = 0; take x i; send o x; }")
	for i := range 20000 {
		d := dice(i)
		p := d.anything()
		if i%3 == 0 {
			p = small
		}
		who, fuel := d.anyName(), d.roll(40)-4
		a, b := d.anyLists(), d.anyLists()
		_, want := run.Program(p, a, fuel)
		if want.Code == api.OK {
			_, want = run.Program(p, b, fuel)
		}
		if want.Code == api.OK && !slices.Contains(p.Chiefs, who) {
			want.Code = api.ErrWho
		}
		if want.Code != api.OK {
			refused(t, i, p, who, a, b, fuel, want)
			found(t, i, p, who, [][][]int{a, b}, fuel, 0, 0, want)
			continue
		}
		right++
		apart, kept := differ(p, who, a, b, fuel)
		held(t, i, p, who, a, b, fuel, apart, kept)
		x, y := first(p, who, [][][]int{a, b}, fuel)
		found(t, i, p, who, [][][]int{a, b}, fuel, x, y, api.Fault{})
	}
	if right < 20 {
		t.Errorf("%d are right", right)
	}
}

// TestPrinted: what is printed and read again is told apart alike.
func TestPrinted(t *testing.T) {
	count, far := 0, 0
	for i := range 1000 {
		m := newMaker(i, 2, 3)
		p, who := m.program(), m.who()
		s, code := tree.Print(p)
		q, f := parse.Program(s)
		if code != api.OK || f.Code != api.OK {
			continue
		}
		a, b := m.inputs(), m.inputs()
		apart, kept, f := Apart(p, who, a, b, 200)
		again, same, g := Apart(q, who, a, b, 200)
		if apart != again || kept != same || f != g {
			t.Fatalf("%d: %v, %v, %v, then %v, %v, %v: %s", i, apart, kept, f, again, same, g, s)
		}
		count++
		far += one(apart)
	}
	if count < 300 || far < 30 {
		t.Errorf("%d, %d of them apart", count, far)
	}
}

// TestShared: lists that lie in so many places that there is more than can be gone through, or within themselves; and lists that are both inputs.
func TestShared(t *testing.T) {
	prog := func(l ...api.Stmt) api.Program {
		p := read(t, around(""))
		p.Procs[0].Body = append(p.Procs[0].Body, l...)
		return p
	}
	take := api.Stmt{Kind: api.Take, Name: "x", Of: "s"}
	l := []api.Stmt{take, send("o", v("x"))}
	for range api.MaxDeep - 1 {
		l = slices.Repeat([]api.Stmt{{Kind: api.If, E: op("==", num(1), num(1)), A: l, B: l}}, 16)
	}
	p := prog(l...)
	in := make([][][]int, api.MaxBody)
	for i := range in {
		in[i] = lists(t, p, "s=0,1,2,3,4,5,6,7,8,9 u=1")
		in[i][0][9] = i / 15
	}
	held(t, "statements", p, "b", in[0], in[1], api.MaxSteps, false, true)
	held(t, "statements", p, "b", in[0], in[15], api.MaxSteps, true, true)
	found(t, "statements", p, "b", in, api.MaxSteps, 0, 15, api.Fault{})
	ring := []api.Stmt{{Kind: api.If, E: flag(1)}}
	ring[0].A = ring
	refused(t, "within itself", prog(ring...), "b", in[0], in[1], 10, api.Fault{Code: api.ErrForm})
	found(t, "within itself", prog(ring...), "b", in, 10, 0, 0, api.Fault{Code: api.ErrForm})
	loop := []api.Expr{op("-")}
	loop[0].A = loop
	refused(t, "an expression within itself", prog(send("o", loop[0])), "b", in[0], in[1], 10, api.Fault{Code: api.ErrForm})
	// One list for both inputs, and for two channels.
	p = read(t, around("take x s; take y u; send o x + y; take x s; send o x;"))
	same := []int{4, 5}
	a, b := lists(t, p, ""), lists(t, p, "s=4")
	a[0], a[2], b[2] = same, same, same
	held(t, "one list", p, "b", a, a, 100, false, true)
	held(t, "one list", p, "b", a, b, 100, true, true)
	found(t, "one list", p, "b", [][][]int{a, a, b, b}, 100, 0, 2, api.Fault{})
}

// TestLarge: as many inputs, steps and policies as there may be.
func TestLarge(t *testing.T) {
	p := api.Program{Chiefs: []string{"a", "b", "c", "d", "e", "f"}}
	var l api.Label
	for range api.MaxPolicies {
		l = append(l, api.Policy{Owner: "a", Readers: p.Chiefs})
	}
	p.Chans = []api.Chan{{Name: "i", In: true, Type: api.Int, L: api.Label{{Owner: "a"}}}, {Name: "o", Type: api.Int, L: l}}
	p.Procs = []api.Proc{{Name: "main", Body: []api.Stmt{
		{Kind: api.Let, Name: "x", E: num(0)},
		{Kind: api.Take, Name: "x", Of: "i"},
		{Kind: api.While, E: flag(1), A: slices.Repeat([]api.Stmt{send("o", release(l, num(1)))}, api.MaxBody-1)},
	}}}
	p.Procs[0].Body[2].A = append(p.Procs[0].Body[2].A, send("o", v("x")))
	in := make([][][]int, api.MaxBody)
	for i := range in {
		in[i] = [][]int{{i / 19}, nil}
	}
	found(t, "large", p, "b", in, api.MaxSteps, 0, 19, api.Fault{})
}

// rich has all that could be changed.
const rich = house + "acts c b; proc f(x: int {a:;b:}): int {a:;b:} begin {a:} for a, b { var y = x; take x s; send o release(y + x to {a:b;b:a,b,c}); if x > 0 { send o y; } return x; } proc main() { var n = 0; while n < 5 { send o f(n); send e release(1 to {c:a}); n = n + 1; } }"

// TestReadOnly: what is handed in stays as it was, with its spare room, and nothing is kept of it.
func TestReadOnly(t *testing.T) {
	for s, want := range map[string]api.Errno{rich: api.OK, rich + "proc f() { }": api.ErrTwice} {
		p := read(t, s)
		l := roomy(reflect.ValueOf(many(t, p, "s=4,5,6 u=7 | u=7 | s=4,5 u=7 | s=1 t=1 u=7"))).Interface().([][][]int)
		p = roomy(reflect.ValueOf(p)).Interface().(api.Program)
		see := func() string {
			return whole(unfolded(reflect.ValueOf(p)).Interface()) + whole(unfolded(reflect.ValueOf(l)).Interface())
		}
		was := see()
		for _, fuel := range []int{api.MaxSteps, 50, -1} {
			for _, who := range []string{"a", "b", "c", "z"} {
				x, y, f := Apart(p, who, l[0], l[1], fuel)
				again, same, g := Apart(p, who, l[0], l[1], fuel)
				i, k, h := Find(p, who, l, fuel)
				if x != again || y != same || f != g || f != h || fuel > 0 && who != "z" && f.Code != want {
					t.Errorf("%v, %v, %v, then %v, %v, %v; %v", x, y, f, again, same, g, h)
				}
				found(t, "again", p, who, l, fuel, i, k, h)
				if now := see(); now != was {
					t.Errorf("%s, was %s", now, was)
				}
			}
		}
	}
}
