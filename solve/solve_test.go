package solve

import (
	"fmt"
	"math"
	"reflect"
	"slices"
	"testing"
	"unsafe"

	"cloister/api"
	"cloister/flow"
	"cloister/label"
	"cloister/parse"
)

// P8.1

// TestLeast: the labels that come of bounds, written so that no others may go to one another with them.
func TestLeast(t *testing.T) {
	for _, c := range []struct {
		n    int
		s    string
		want string
	}{
		{0, "", ""},
		{0, "{a:} > {}", ""},
		{1, "", "{}"},
		{3, "", "{} {} {}"},
		{1, "> 0", "{}"},
		{1, "{a:} > 0", "{a:}"},
		{1, "{a:b} > 0", "{a:b}"},
		{1, "{b:c,b,a,a;a:b;a:} > 0", "{a:;b:a,c}"},
		{1, "{b:} > 0 | {a:} > 0", "{a:;b:}"},
		{1, "{a:b,c} > 0 | {a:b} > 0", "{a:b}"},
		{1, "{a:b} > 0 | {a:c} > 0", "{a:b;a:c}"},
		{2, "{a:} > 1", "{} {a:}"},
		{2, "{a:} > 0 | 0 > 1", "{a:} {a:}"},
		{2, "0 > 1 | {a:} > 0", "{a:} {a:}"},
		{2, "{a:} > 1 | 0 > 1", "{} {a:}"},
		{2, "0 {a:} > 1 | {b:} > 0", "{b:} {a:;b:}"},
		{2, "1 {a:} > 0 | {b:} > 1", "{a:;b:} {b:}"},
		// Ways on, whichever way they are told.
		{4, "{a:} > 0 | 0 > 1 | 1 > 2 | 2 > 3", "{a:} {a:} {a:} {a:}"},
		{4, "2 > 3 | 1 > 2 | 0 > 1 | {a:} > 0", "{a:} {a:} {a:} {a:}"},
		{4, "{a:} > 3 | 3 > 2 | 2 > 1 | 1 > 0", "{a:} {a:} {a:} {a:}"},
		// Ways that come together, and part.
		{3, "{a:} > 0 | {b:} > 1 | 0 1 > 2", "{a:} {b:} {a:;b:}"},
		{3, "2 > 0 | 2 > 1 | {a:} > 1 | {b:} > 2", "{b:} {a:;b:} {b:}"},
		{3, "1 0 1 0 0 {c:} > 2 | {a:} > 0 | {b:} > 1", "{a:} {b:} {a:;b:;c:}"},
		// Ways round.
		{1, "0 > 0", "{}"},
		{1, "0 {a:} > 0", "{a:}"},
		{2, "0 > 1 | 1 > 0", "{} {}"},
		{2, "0 {a:} > 1 | 1 {b:} > 0", "{a:;b:} {a:;b:}"},
		{4, "0 > 1 | 1 > 2 | 2 > 0 | 2 > 3 | {a:b} > 1 | {c:} > 3", "{a:b} {a:b} {a:b} {a:b;c:}"},
		// What goes into a label that is told says nothing of others.
		{1, "{a:} > {} | 0 > {a:} | 0 > {}", "{}"},
		{2, "{a:} > 0 | 0 > {} | 1 > {b:} | 0 > {b:} for a", "{a:} {}"},
		// Into beside a number says nothing, either.
		{1, "{a:} > 0 {b:}", "{a:}"},
		// What is left out with somebody's authority.
		{1, "{a:;b:} > 0 for a", "{b:}"},
		{1, "{a:;b:} > 0 for b, a", "{}"},
		{1, "{a:;b:} > 0 for a, a, a, a, a, a", "{b:}"},
		{1, "{a:;b:} > 0 for c", "{a:;b:}"},
		{2, "{a:b;a:c;b:a} > 0 | 0 > 1 for a", "{a:b;a:c;b:a} {b:a}"},
		{2, "0 > 1 for a | {a:} > 0 | 1 > 0 | {b:} > 1 for a", "{a:;b:} {b:}"},
		{2, "0 > 1 for a | 0 > 1 for b | {a:;b:} > 0", "{a:;b:} {a:;b:}"},
		{2, "{b:} > 0 for a | 0 {a:} > 1 for b", "{b:} {a:}"},
	} {
		comes(t, world{chiefs: names("a b c")}, c.n, c.s, c.want)
	}
}

// comes: Least of bounds are these labels.
func comes(t *testing.T, w world, n int, s, want string) {
	t.Helper()
	l, code := Least(w.chiefs, w.acts, n, bounds(t, s))
	if code != api.OK || text(l) != want || len(l) != n {
		t.Errorf("%v: %d, %s: %s, %d, want %s", w, n, s, text(l), code, want)
	}
}

// TestLeastActing: where chiefs act for others, what is covered is left out, and what is owned by those whom somebody acts for may be.
func TestLeastActing(t *testing.T) {
	for _, c := range []struct {
		acts string
		n    int
		s    string
		want string
	}{
		{"c b", 1, "{b:} > 0 | {c:} > 0", "{c:}"},
		{"c b", 1, "{b:} > 0 | {c:a} > 0", "{b:;c:a}"},
		{"c b", 1, "{a:b} > 0 | {a:c} > 0", "{a:c}"},
		{"c b, b a", 2, "{a:} > 0 | {b:} > 1 | 0 {c:} > 1", "{a:} {c:}"},
		{"c b", 1, "{b:;a:} > 0 for c", "{a:}"},
		{"c b", 1, "{c:;b:;a:} > 0 for b", "{a:;c:}"},
		{"c b", 1, "{b:;c:;a:} > 0 for c", "{a:}"},
		{"c b, b a", 1, "{a:;b:;c:} > 0 for c", "{}"},
		{"c b, b a", 1, "{a:;b:c;c:a} > 0 for b", "{c:a}"},
		{"c b, b a", 2, "{a:} > 0 | 0 > 1 for c", "{a:} {}"},
		{"c b, b a", 2, "{c:} > 0 | 0 > 1 for a | 0 {b:} > 1", "{c:} {c:}"},
		{"a b, b a", 1, "{a:;b:;c:} > 0 for b", "{c:}"},
		{"a a", 1, "{a:;b:} > 0 for a", "{b:}"},
	} {
		comes(t, world{names("a b c"), pairs(c.acts)}, c.n, c.s, c.want)
	}
	// Which one of two that may go to one another is free: it is one of them.
	for _, s := range []string{"{a:} > 0 | {b:} > 0", "{b:} > 0 | {a:} > 0", "{b:} > 0", "{b:a} > 0 | {a:b} > 0"} {
		w := world{names("a b c"), pairs("a b, b a")}
		l, code := Least(w.chiefs, w.acts, 1, bounds(t, s))
		if code != api.OK || len(l[0]) != 1 || !w.normal(l) || !w.flows(l[0], lab(t, "{a:}")) || !w.flows(lab(t, "{a:}"), l[0]) {
			t.Errorf("%s: %s, %d", s, text(l), code)
		}
	}
}

// TestLeastOfAll: of all labels that two chiefs can make, those that hold the bounds are gone to from the least ones, which are among them.
func TestLeastOfAll(t *testing.T) {
	count := 0
	for i := range 400 {
		d := dice(i)
		w := world{chiefs: names("b a")}
		for range i % 3 {
			w.acts = append(w.acts, [2]string{d.who(w), d.who(w)})
		}
		l := d.bounds(w, 2, 7)
		got, code := Least(w.chiefs, w.acts, 2, l)
		if code != api.OK || len(got) != 2 || !w.normal(got) || !w.hold(l, got) {
			t.Fatalf("%v: %v: %s, %d", w, l, text(got), code)
		}
		all := every(w.chiefs)
		for _, a := range all {
			for _, b := range all {
				have := []api.Label{a, b}
				if !w.hold(l, have) {
					continue
				}
				count++
				if !w.allFlow(got, have) {
					t.Fatalf("%v: %v: %s, but %s hold, too", w, l, text(got), text(have))
				}
			}
		}
	}
	if count < 10000 {
		t.Errorf("%d hold", count)
	}
}

// TestMade holds what is answered of made bounds against what the chapter's words say, by the calls of chapter 3.
func TestMade(t *testing.T) {
	some, free := 0, 0
	for i := range 3000 {
		d := dice(i)
		w := d.world(6)
		n := d.roll(8)
		l := d.bounds(w, n, 16)
		got, code := Least(w.chiefs, w.acts, n, l)
		if code != api.OK || len(got) != n || !w.normal(got) || !w.hold(l, got) {
			t.Fatalf("%d: %v: %v: %s, %d", i, w, l, text(got), code)
		}
		want := w.grow(l, make([]api.Label, n))
		if !w.allFlow(got, want) || !w.allFlow(want, got) {
			t.Fatalf("%d: %v: %v: %s, want %s", i, w, l, text(got), text(want))
		}
		others := w.grow(l, d.labels(w, n, 3))
		if !w.allFlow(got, others) {
			t.Fatalf("%d: %v: %v: %s, but %s hold, too", i, w, l, text(got), text(others))
		}
		breaks(t, w, l, got)
		breaks(t, w, l, others)
		breaks(t, w, l, d.labels(w, n, 5))
		breaks(t, w, l, make([]api.Label, n))
		for _, one := range got {
			some += min(len(one), 1)
		}
		free += len(slices.DeleteFunc(slices.Clone(l), func(b api.Bound) bool { return len(b.For) == 0 }))
	}
	if some < 3000 || free < 2000 {
		t.Errorf("%d labels that aren't empty, %d releases", some, free)
	}
}

// breaks: Broken answers what the chapter's words say.
func breaks(t *testing.T, w world, l []api.Bound, have []api.Label) {
	t.Helper()
	got, code := Broken(w.chiefs, w.acts, have, l)
	if want := w.broken(l, have); code != api.OK || !slices.Equal(got, want) {
		t.Fatalf("%v: %s: %v: %v, %d, want %v", w, text(have), l, got, code, want)
	}
}

// TestPrograms: the labels of variables of programs.
func TestPrograms(t *testing.T) {
	const house = "chief a; chief b; chief c; acts c b; in i: int {a:}; in j: bool {b:a}; out o: int {a:;b:}; out p: bool {}; "
	for _, c := range []struct {
		s      string
		want   string
		broken string
	}{
		{"proc main() { var x = 1; send o x; }", "{}", "[]"},
		{"proc main() { var x = 1; take x i; send o x; }", "{a:}", "[]"},
		{"proc main() { var x = 1; take x i; send p x > 1; }", "{a:}", "[3]"},
		{"proc main() { var s = true; take s j; if s { send p true; } }", "{b:a}", "[3]"},
		{"proc main() { var x = 1; var y = 2; while y > 0 { take x i; y = x; } send o y; }", "{a:} {a:}", "[]"},
		{"proc main() { var s = true; var x = 1; if s { take x i; } take s j; send o x; }", "{b:a} {a:;b:a}", "[2]"},
		{"proc main() for a { var x = 1; take x i; var y = release(x to {}); send p y > 1; }", "{a:} {}", "[]"},
		{"proc main() for b { var x = 1; take x i; var y = release(x to {}); send p y > 1; }", "{a:} {}", "[3]"},
		{"proc main() for c { var s = true; take s j; send p release(s to {}); }", "{b:a}", "[]"},
	} {
		p, f := parse.Program(house + c.s)
		if f.Code != api.OK {
			t.Fatalf("%s: %v", c.s, f)
		}
		n, _, l, f := flow.Bounds(p)
		if f.Code != api.OK {
			t.Fatalf("%s: %v", c.s, f)
		}
		got, code := Least(p.Chiefs, p.Acts, n, l)
		if text(got) != c.want || code != api.OK {
			t.Errorf("%s: %s, %d, want %s", c.s, text(got), code, c.want)
		}
		out, code := Broken(p.Chiefs, p.Acts, got, l)
		if fmt.Sprint(out) != c.broken || code != api.OK {
			t.Errorf("%s: %v, %d, want %s", c.s, out, code, c.broken)
		}
	}
}

// long answers a label of n policies.
func long(n int) api.Label {
	return slices.Repeat(api.Label{{Owner: "a", Readers: []string{"b"}}}, n)
}

// TestRefused: what is wrong with bounds, and which of it is told.
func TestRefused(t *testing.T) {
	ab := names("a b")
	seven := names("a a a a a a a")
	wide := api.Label{{Owner: "a", Readers: seven}}
	nobody := api.Label{{Owner: "z"}}
	numbers := make([]int, api.MaxBounds+1)
	ok := api.Bound{To: 0}
	for _, c := range []struct {
		what   string
		chiefs []string
		acts   [][2]string
		n      int
		l      []api.Bound
		want   api.Errno
	}{
		{"nobody, nothing", nil, nil, 0, nil, api.OK},
		{"empty lists", []string{}, [][2]string{}, 0, []api.Bound{}, api.OK},
		{"a bound of nobody", nil, nil, 1, []api.Bound{{From: []int{}, L: api.Label{}, Into: api.Label{}, For: []string{}}}, api.OK},
		{"as many as may be", ab, nil, api.MaxBounds, slices.Repeat([]api.Bound{{To: api.MaxBounds - 1}}, api.MaxBounds), api.OK},
		{"too many chiefs", names("a b c d e f g"), nil, -1, []api.Bound{{To: 9}}, api.ErrMany},
		{"too many pairs", ab, make([][2]string, api.MaxActs+1), -1, []api.Bound{{To: 9}}, api.ErrMany},
		{"a chief that is no Name", names("a if"), nil, -1, []api.Bound{{To: 9}}, api.ErrForm},
		{"a chief twice", names("a a"), nil, api.MaxBounds + 1, []api.Bound{{To: 9}}, api.ErrTwice},
		{"a pair of no chiefs", ab, pairs("a z"), 1, make([]api.Bound, api.MaxBounds+1), api.ErrWho},
		{"below 0", ab, nil, -1, nil, api.ErrMany},
		{"far below 0", ab, nil, math.MinInt, []api.Bound{{To: -2}}, api.ErrMany},
		{"too many labels", ab, nil, api.MaxBounds + 1, nil, api.ErrMany},
		{"far too many labels", ab, nil, math.MaxInt, []api.Bound{{To: -2}}, api.ErrMany},
		{"too many bounds", ab, nil, 1, slices.Repeat([]api.Bound{{To: -2}}, api.MaxBounds+1), api.ErrMany},
		{"To is below -1", ab, nil, 1, []api.Bound{{To: -2}}, api.ErrRange},
		{"To is far below", ab, nil, 1, []api.Bound{{To: math.MinInt}}, api.ErrRange},
		{"To is n", ab, nil, 1, []api.Bound{{To: 1}}, api.ErrRange},
		{"To of none", ab, nil, 0, []api.Bound{{To: 0}}, api.ErrRange},
		{"To is far above", ab, nil, 1, []api.Bound{{To: math.MaxInt}}, api.ErrRange},
		{"To is -1", ab, nil, 0, []api.Bound{{To: -1}}, api.OK},
		{"To is the last", ab, nil, 5, []api.Bound{{To: 4}}, api.OK},
		{"From is below 0", ab, nil, 1, []api.Bound{{From: []int{0, -1}}}, api.ErrRange},
		{"From is n", ab, nil, 1, []api.Bound{{From: []int{0, 0, 1}}}, api.ErrRange},
		{"From of none", ab, nil, 0, []api.Bound{{From: []int{0}, To: -1}}, api.ErrRange},
		{"From of all", ab, nil, 3, []api.Bound{{From: []int{2, 1, 0}}}, api.OK},
		{"From is long", ab, nil, 1, []api.Bound{{From: numbers[1:]}}, api.OK},
		{"From is too long", ab, nil, 1, []api.Bound{{From: numbers}}, api.ErrRange},
		{"From is too long ahead of L", ab, nil, 1, []api.Bound{{From: numbers, L: nobody}}, api.ErrRange},
		{"From, goes into what is told", ab, nil, 1, []api.Bound{{From: []int{1}, To: -1}}, api.ErrRange},
		{"L is long", ab, nil, 1, []api.Bound{{L: long(api.MaxPolicies)}}, api.OK},
		{"L is too long", ab, nil, 1, []api.Bound{{L: long(api.MaxPolicies + 1)}}, api.ErrMany},
		{"L of too many Readers", ab, nil, 1, []api.Bound{{L: wide}}, api.ErrMany},
		{"L of nobody", ab, nil, 1, []api.Bound{{L: nobody}}, api.ErrWho},
		{"Into is long", ab, nil, 1, []api.Bound{{To: -1, Into: long(api.MaxPolicies)}}, api.OK},
		{"Into is too long", ab, nil, 1, []api.Bound{{To: -1, Into: long(api.MaxPolicies + 1)}}, api.ErrMany},
		{"Into of nobody", ab, nil, 1, []api.Bound{{To: -1, Into: nobody}}, api.ErrWho},
		{"Into of nobody beside a number", ab, nil, 1, []api.Bound{{Into: nobody}}, api.ErrWho},
		{"Into of too many Readers beside a number", ab, nil, 1, []api.Bound{{Into: wide}}, api.ErrMany},
		{"For is long", ab, nil, 1, []api.Bound{{For: seven[1:]}}, api.OK},
		{"For is too long", ab, nil, 1, []api.Bound{{For: seven}}, api.ErrMany},
		{"For is too long ahead of who", ab, nil, 1, []api.Bound{{For: names("z a a a a a a")}}, api.ErrMany},
		{"For of nobody", ab, nil, 1, []api.Bound{{For: names("a b z")}}, api.ErrWho},
		{"For without a name", ab, nil, 1, []api.Bound{{For: []string{""}}}, api.ErrWho},
		{"For of another case", ab, nil, 1, []api.Bound{{For: names("A")}}, api.ErrWho},
		{"To ahead of all else", ab, nil, 1, []api.Bound{{To: 1, L: nobody, Into: wide, For: seven}}, api.ErrRange},
		{"From ahead of L", ab, nil, 1, []api.Bound{{From: []int{1}, L: nobody, Into: wide, For: seven}}, api.ErrRange},
		{"L ahead of Into", ab, nil, 1, []api.Bound{{L: nobody, Into: wide, For: seven}}, api.ErrWho},
		{"Into ahead of For", ab, nil, 1, []api.Bound{{Into: nobody, For: seven}}, api.ErrWho},
		{"Into ahead of who", ab, nil, 1, []api.Bound{{Into: wide, For: names("z")}}, api.ErrMany},
		{"the first bound's For ahead of the second's To", ab, nil, 1, []api.Bound{ok, {For: names("z")}, {To: 7}}, api.ErrWho},
		{"the first bound's To ahead of the second's For", ab, nil, 1, []api.Bound{ok, {To: 7}, {For: names("z")}}, api.ErrRange},
		{"the last one", ab, nil, 1, []api.Bound{ok, ok, ok, {L: wide}}, api.ErrMany},
	} {
		l, code := Least(c.chiefs, c.acts, c.n, c.l)
		if code != c.want || code != api.OK && len(l) > 0 || code == api.OK && len(l) != c.n {
			t.Errorf("%s: %d labels, %d, want %d", c.what, len(l), code, c.want)
		}
		if c.n < 0 || c.n > 1000 {
			continue
		}
		// Broken tells the same, whatever is wrong with its labels.
		for _, one := range []api.Label{nil, nobody, wide} {
			out, code := Broken(c.chiefs, c.acts, slices.Repeat([]api.Label{one}, c.n), c.l)
			if c.want != api.OK && (code != c.want || len(out) > 0) {
				t.Errorf("%s: Broken: %v, %d, want %d", c.what, out, code, c.want)
			}
		}
	}
}

// P8.2

// TestBroken: which bounds labels don't hold.
func TestBroken(t *testing.T) {
	for _, c := range []struct {
		acts string
		have string
		s    string
		want string
	}{
		{"", "", "", "[]"},
		{"", "{a:}", "", "[]"},
		{"", "", "{a:} > {a:} | {a:} > {} | > {}", "[1]"},
		{"", "{}", "{a:} > 0 | > 0 | 0 > 0", "[0]"},
		{"", "{a:}", "{a:} > 0 | {a:b} > 0 | {b:} > 0 | {a:;b:} > 0", "[2 3]"},
		{"", "{a:b}", "{a:} > 0 | {a:b} > 0 | {a:b,c} > 0 | {a:c} > 0", "[0 3]"},
		{"", "{a:} {b:}", "0 > 1 | 1 > 0 | 0 > 0 | 0 1 > 1 | 0 1 > {b:;a:}", "[0 1 3]"},
		{"", "{a:} {b:} {b:;a:}", "0 > 2 | 1 > 2 | 0 1 1 0 > 2 | 2 > 0 | 2 {c:} > 2", "[3 4]"},
		// What stands in Into beside a number says nothing.
		{"", "{} {a:}", "{a:} > 0 {a:} | {a:} > 1 {}", "[0]"},
		// Labels that hold more than they must.
		{"", "{a:;b:;c:} {a:;b:;c:}", "{a:} > 0 | 0 > 1 | 1 > {a:;b:}", "[2]"},
		// Labels as they stand.
		{"", "{b:b,c,a,c;a:b;a:} {a:;b:a,c}", "0 > 1 | 1 > 0 | 1 > {a:}", "[2]"},
		// What is left out.
		{"", "{a:;b:}", "0 > {} | 0 > {} for a | 0 > {} for a, b | 0 > {b:} for a | 0 > {a:} for a | 0 > {} for c", "[0 1 4 5]"},
		{"", "{a:}", "{b:} > 0 | {b:} > 0 for b | {b:;c:} > 0 for b", "[0 2]"},
		{"", "{a:}", "0 > 0 for a | 0 > {b:} for a", "[]"},
		{"c b", "{b:} {c:}", "0 > 1 | 1 > 0 | 0 > {} for c | 1 > {} for b | 0 > {} for b | {a:b} > {a:c} | {a:c} > {a:b}", "[1 3 6]"},
		{"c b", "{a:} {b:;c:a}", "1 > 0 for c | 1 > {c:a} for b | 1 > {} for b | 1 > {c:} for b", "[2]"},
		{"a b, b a", "{a:} {b:}", "0 > 1 | 1 > 0 | 0 > {} for b | 1 > {} for a | 0 > {c:}", "[4]"},
	} {
		out, code := Broken(names("a b c"), pairs(c.acts), labs(t, c.have), bounds(t, c.s))
		if fmt.Sprint(out) != c.want || code != api.OK {
			t.Errorf("%s: %s: %s: %v, %d, want %s", c.acts, c.have, c.s, out, code, c.want)
		}
	}
}

// TestBrokenLabels: what is wrong with the labels, behind what is wrong with the bounds.
func TestBrokenLabels(t *testing.T) {
	ab := names("a b")
	nobody := api.Label{{Owner: "z"}}
	wide := api.Label{{Owner: "a", Readers: names("a a a a a a a")}}
	for _, c := range []struct {
		what string
		have []api.Label
		l    []api.Bound
		want api.Errno
	}{
		{"none", nil, nil, api.OK},
		{"no bounds", []api.Label{nil, {}}, nil, api.OK},
		{"as many as may be", make([]api.Label, api.MaxBounds), nil, api.OK},
		{"too many", make([]api.Label, api.MaxBounds+1), nil, api.ErrMany},
		{"too many, ahead of their own", slices.Repeat([]api.Label{nobody}, api.MaxBounds+1), nil, api.ErrMany},
		{"too many, ahead of bounds", make([]api.Label, api.MaxBounds+1), []api.Bound{{For: names("z")}}, api.ErrMany},
		{"long", []api.Label{long(api.MaxPolicies)}, nil, api.OK},
		{"too long", []api.Label{long(api.MaxPolicies + 1)}, nil, api.ErrMany},
		{"of nobody", []api.Label{nil, nobody}, nil, api.ErrWho},
		{"of too many Readers", []api.Label{nil, wide}, nil, api.ErrMany},
		{"the first of them", []api.Label{nobody, wide}, nil, api.ErrWho},
		{"the first one", []api.Label{wide, nobody}, nil, api.ErrMany},
		{"bounds first", []api.Label{wide, nobody}, []api.Bound{{To: 2}}, api.ErrRange},
		{"the last bound first", []api.Label{wide}, []api.Bound{{}, {For: names("z")}}, api.ErrWho},
		{"as many as there are", []api.Label{nil, nil}, []api.Bound{{From: []int{1}, To: 1}}, api.OK},
		{"broken, and wrong", []api.Label{nil, nobody}, []api.Bound{{L: long(1), To: 0}}, api.ErrWho},
	} {
		out, code := Broken(ab, nil, c.have, c.l)
		if code != c.want || len(out) > 0 {
			t.Errorf("%s: %v, %d, want %d", c.what, out, code, c.want)
		}
	}
}

// P1 to P3

// full answers a world of six, n labels, and as many bounds as may be, each with as much as may be.
func full(acts [][2]string) (world, []api.Bound) {
	w := world{names("f e d c b a"), acts}
	all := policies(w.chiefs)
	numbers := make([]int, api.MaxBounds)
	for i := range numbers {
		numbers[i] = len(numbers) - 1 - i
	}
	var l []api.Bound
	for i := range api.MaxBounds {
		l = append(l, api.Bound{From: numbers, L: all, To: i, Into: all, For: w.chiefs[:i%2]})
	}
	return w, l
}

// TestFull: as much of all as may be.
func TestFull(t *testing.T) {
	for _, acts := range [][][2]string{nil, pairs("a b, b c, c d, d e, e f"), pairs("a b, b c, c d, d e, e f, f a")} {
		w, l := full(acts)
		got, code := Least(w.chiefs, w.acts, len(l), l)
		if code != api.OK || len(got) != len(l) || !w.normal(got[:3]) {
			t.Fatalf("%v: %d labels, %d", w, len(got), code)
		}
		if out, code := Broken(w.chiefs, w.acts, got, l); len(out) != 0 || code != api.OK {
			t.Errorf("%v: %v, %d", w, out, code)
		}
		have := make([]api.Label, len(l))
		for i := range have {
			have[i] = api.Label{{Owner: "f", Readers: names("a b c d e")}}
		}
		want := w.broken(l[:2], have)
		if out, code := Broken(w.chiefs, w.acts, have, l); len(out) != len(want)*len(l)/2 || code != api.OK {
			t.Errorf("%v: %v, %d, but of two %v", w, out, code, want)
		}
	}
}

// TestFar: what comes by way of all labels, told from the end, each with a policy of its own, and with From as long as may be.
func TestFar(t *testing.T) {
	w := world{chiefs: names("f e d c b a")}
	all := slices.DeleteFunc(policies(w.chiefs), func(p api.Policy) bool { return len(p.Readers) != 2 })
	var l []api.Bound
	for i := range api.MaxBounds - 1 {
		b := api.Bound{To: i, From: slices.Repeat([]int{i + 1}, api.MaxBounds)}
		if i < len(all) {
			b.L = all[i : i+1]
		}
		l = append(l, b)
	}
	l = append(l, api.Bound{To: api.MaxBounds - 1, L: api.Label{{Owner: "c", Readers: names("a")}}})
	got, code := Least(w.chiefs, nil, api.MaxBounds, l)
	if code != api.OK || len(got) != api.MaxBounds {
		t.Fatal(len(got), code)
	}
	for i := range got {
		want := must(label.Normal(w.chiefs, nil, append(slices.Clone(all[min(i, len(all)):]), l[len(l)-1].L...)))
		if text(got[i:i+1]) != text([]api.Label{want}) {
			t.Fatalf("%d: %s, want %s", i, text(got[i:i+1]), text([]api.Label{want}))
		}
	}
	breaks(t, w, l[:5], got[:6])
}

// TestMany: labels with more policies than chapter 3's Join takes at once.
func TestMany(t *testing.T) {
	w := world{chiefs: names("a b")}
	have := []api.Label{slices.Repeat(lab(t, "{a:b}"), api.MaxPolicies), slices.Repeat(lab(t, "{b:a}"), api.MaxPolicies), lab(t, "{a:b;b:a}")}
	l := []api.Bound{{From: []int{0, 1}, L: long(api.MaxPolicies), To: 2}, {From: []int{2}, To: 1}, {From: []int{2}, To: 0, For: names("b")}}
	if out, code := Broken(w.chiefs, nil, have, l); fmt.Sprint(out) != "[1]" || code != api.OK {
		t.Errorf("%v, %d", out, code)
	}
	l = []api.Bound{{L: have[0], To: 0}, {L: have[1], To: 0}, {From: []int{0}, L: have[1], To: 1}}
	if got, code := Least(w.chiefs, nil, 2, l); text(got) != "{a:b;b:a} {a:b;b:a}" || code != api.OK {
		t.Errorf("%s, %d", text(got), code)
	}
	// All that six can write, with and without the Owner among the Readers, are more than a label may have.
	w = world{chiefs: names("f e d c b a")}
	all := policies(w.chiefs)
	also := slices.Clone(all)
	for i := range also {
		also[i].Readers = append(slices.Clone(also[i].Readers), also[i].Owner)
	}
	l = []api.Bound{{L: all, To: 0}, {L: also, To: 0}, {From: []int{0}, To: 1, For: names("d")}}
	got, code := Least(w.chiefs, nil, 2, l)
	if text(got) != "{a:;b:;c:;d:;e:;f:} {a:;b:;c:;e:;f:}" || code != api.OK {
		t.Errorf("%s, %d", text(got), code)
	}
	breaks(t, w, l, []api.Label{all, also})
	breaks(t, w, l, []api.Label{also, nil})
}

// TestOrders: what is answered hangs neither on the order of the bounds, nor on that of the chiefs.
func TestOrders(t *testing.T) {
	for i := range 300 {
		d := dice(i)
		w := d.world(6)
		n := 1 + d.roll(6)
		l := d.bounds(w, n, 12)
		got, _ := Least(w.chiefs, w.acts, n, l)
		turned := world{slices.Clone(w.chiefs), slices.Clone(w.acts)}
		slices.Sort(turned.chiefs)
		slices.Reverse(turned.acts)
		k := slices.Clone(l)
		slices.Reverse(k)
		again, code := Least(turned.chiefs, turned.acts, n, k)
		if text(again) != text(got) || code != api.OK {
			t.Fatalf("%d: %v: %v: %s, then %s, %d", i, w, l, text(got), text(again), code)
		}
	}
}

// given answers what is handed in, with spare room behind each list.
func given(t *testing.T) (world, []api.Label, []api.Bound) {
	w := world{append(names("c b a"), "spare", "room")[:3], append(pairs("c c"), [2]string{"spare", "room"})[:1]}
	l := bounds(t, "{b:c,b,a,c;a:b} > 1 | 1 2 0 1 > 0 | 1 {c:a,b} > 2 {a:b} for a, b | 2 > {b:a} for c | 2 > {a:}")
	for i := range l {
		b := &l[i]
		b.From = append(b.From, 7, 8)[:len(b.From)]
		b.For = append(b.For, "spare", "room")[:len(b.For)]
		b.L = append(b.L, api.Policy{Owner: "spare"})[:len(b.L)]
		b.Into = append(b.Into, api.Policy{Owner: "room"})[:len(b.Into)]
		for j := range b.L {
			r := &b.L[j].Readers
			*r = append(*r, "spare")[:len(*r)]
		}
	}
	have := append(labs(t, "{b:a,c,a;a:c} {a:} {c:b}"), api.Label{{Owner: "spare"}})[:3]
	return w, have, append(l, api.Bound{To: 9})[:len(l)]
}

// TestReadOnly: what is handed in stays as it was, with its spare room.
func TestReadOnly(t *testing.T) {
	w, have, l := given(t)
	for range 2 {
		got, code := Least(w.chiefs, w.acts, 3, l)
		if text(got) != "{a:b;b:a,c;c:a,b} {a:b;b:a,c} {c:a,b}" || code != api.OK {
			t.Errorf("%s, %d", text(got), code)
		}
		breaks(t, w, l, have)
	}
	w2, have2, l2 := given(t)
	for i := range l {
		wholeBound(&l[i])
		wholeBound(&l2[i])
	}
	ours := []any{w.chiefs[:5], w.acts[:2], have[:4], l[:len(l)+1]}
	same := []any{w2.chiefs[:5], w2.acts[:2], have2[:4], l2[:len(l2)+1]}
	if !reflect.DeepEqual(ours, same) {
		t.Errorf("changed: %v, was %v", ours, same)
	}
}

// wholeBound shows the spare room of b.
func wholeBound(b *api.Bound) {
	b.From, b.For, b.L, b.Into = b.From[:len(b.From)+2], b.For[:len(b.For)+2], b.L[:len(b.L)+1], b.Into[:len(b.Into)+1]
	for j := range len(b.L) - 1 {
		b.L[j].Readers = b.L[j].Readers[:len(b.L[j].Readers)+1]
	}
}

// TestNew: what is answered shares no memory with what is handed in, and no two lists of it share any.
func TestNew(t *testing.T) {
	w, have, l := given(t)
	l = append(slices.Clone(l), bounds(t, "0 > 3 | 0 > 4 | 1 > 5")...)
	ours := map[unsafe.Pointer]string{}
	note := func(at unsafe.Pointer, what string) { ours[at] = what }
	for _, x := range []any{w, have, l} {
		pieces(reflect.ValueOf(x), note)
	}
	got, code := Least(w.chiefs, w.acts, 6, l)
	if code != api.OK || len(got[0]) < 3 || text(got[3:4]) != text(got[:1]) {
		t.Fatal(text(got), code)
	}
	seen := map[unsafe.Pointer]string{}
	pieces(reflect.ValueOf(got), func(at unsafe.Pointer, what string) {
		if old := ours[at]; old != "" {
			t.Errorf("%s is what was handed in: %s", what, old)
		}
		if old := seen[at]; old != "" {
			t.Errorf("%s is that of another one: %s", what, old)
		}
		seen[at] = what
	})
	if len(seen) < 30 {
		t.Errorf("%d pieces", len(seen))
	}
	was := text(got)
	for _, one := range got {
		for i := range one {
			clear(one[i].Readers)
			one[i].Owner = "spoilt"
		}
	}
	if again, _ := Least(w.chiefs, w.acts, 6, l); text(again) != was {
		t.Errorf("it has been kept: %s, was %s", text(again), was)
	}
}

// pieces shows where the lists and names of x lie.
func pieces(x reflect.Value, see func(at unsafe.Pointer, what string)) {
	switch x.Kind() {
	case reflect.String:
		if x.Len() > 0 {
			see(unsafe.Pointer(unsafe.StringData(x.String())), x.String())
		}
	case reflect.Struct:
		for i := range x.NumField() {
			pieces(x.Field(i), see)
		}
	case reflect.Array:
		for i := range x.Len() {
			pieces(x.Index(i), see)
		}
	case reflect.Slice:
		for i := range x.Len() {
			pieces(x.Index(i), see)
		}
		if x.Cap() > 0 {
			see(x.UnsafePointer(), fmt.Sprint(x.Type()))
		}
	}
}
