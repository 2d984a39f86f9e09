package chief

import (
	"slices"
	"strings"
	"testing"
	"unsafe"

	"cloister/api"
)

// P2.1

func TestCheck(t *testing.T) {
	six := names("a b c d e f")
	longest := strings.Repeat("a", api.MaxName)
	for _, c := range []struct {
		what string
		l    []string
		acts [][2]string
		want api.Errno
	}{
		{"nobody", nil, nil, api.OK},
		{"nobody, empty lists", []string{}, [][2]string{}, api.OK},
		{"one", names("A"), nil, api.OK},
		{"as many as may be", six, ten(pair("a", "b")), api.OK},
		{"a pair twice", names("a b"), pairs("a b", "a b"), api.OK},
		{"for itself", names("a"), pairs("a a"), api.OK},
		{"for one another", names("a b"), pairs("a b", "b a"), api.OK},
		{"small and great letters", names("a A"), pairs("a A"), api.OK},
		{"a long name", []string{longest}, pairs(longest + " " + longest), api.OK},
		{"too many chiefs", append(names("a b c d e f"), "g"), nil, api.ErrMany},
		{"far too many chiefs", make([]string, 100000), nil, api.ErrMany},
		{"too many pairs", six, append(ten(pair("a", "b")), pair("a", "b")), api.ErrMany},
		{"too many pairs of nobody", nil, make([][2]string, 11), api.ErrMany},
		{"no name", []string{""}, nil, api.ErrForm},
		{"a word", names("a if"), nil, api.ErrForm},
		{"too long a name", []string{longest + "a"}, nil, api.ErrForm},
		{"a digit ahead", names("1a"), nil, api.ErrForm},
		{"a blank within", []string{"a b"}, nil, api.ErrForm},
		{"twice", names("a b a"), nil, api.ErrTwice},
		{"twice at once", names("a a"), nil, api.ErrTwice},
		{"the first of a pair is none", names("a b"), pairs("z a"), api.ErrWho},
		{"the second of a pair is none", names("a b"), pairs("a z"), api.ErrWho},
		{"the last pair", names("a b"), pairs("a b", "b a", "A b"), api.ErrWho},
		{"a pair of nobody", nil, [][2]string{{}}, api.ErrWho},
		{"many ahead of form", append(names("a b c d e f"), "1"), nil, api.ErrMany},
		{"many pairs ahead of form", names("1"), make([][2]string, 11), api.ErrMany},
		{"many pairs ahead of twice", names("a a"), make([][2]string, 11), api.ErrMany},
		{"form ahead of twice", names("a 1 a"), nil, api.ErrForm},
		{"twice ahead of form", names("a a 1"), nil, api.ErrTwice},
		{"form of what is twice", names("a 1 1"), nil, api.ErrForm},
		{"form ahead of who", names("a 1"), pairs("z a"), api.ErrForm},
		{"twice ahead of who", names("a a"), pairs("z a"), api.ErrTwice},
	} {
		if got := Check(c.l, c.acts); got != c.want {
			t.Errorf("%s: %d, want %d", c.what, got, c.want)
		}
		if c.want != api.OK {
			refused(t, c.what, c.l, c.acts, c.want)
		}
	}
}

// refused: the others tell Check's error, and nothing else, whomever they are asked of.
func refused(t *testing.T, what string, l []string, acts [][2]string, want api.Errno) {
	t.Helper()
	for _, b := range append([]string{"a", "no one"}, l[:min(len(l), 3)]...) {
		if ok, code := Acts(l, acts, b, b); ok || code != want {
			t.Errorf("%s: Acts of %q: %v, %d, want %d", what, b, ok, code, want)
		}
		if out, code := For(l, acts, b); len(out) > 0 || code != want {
			t.Errorf("%s: For %q: %q, %d, want %d", what, b, out, code, want)
		}
	}
	if out, code := Least(l, acts); len(out) > 0 || code != want {
		t.Errorf("%s: Least: %q, %d, want %d", what, out, code, want)
	}
}

// P2.2

func TestActs(t *testing.T) {
	l := names("a b c d")
	acts := pairs("c d", "b c", "a b")
	for i, a := range l {
		for j, b := range l {
			if ok, code := Acts(l, acts, a, b); ok != (i <= j) || code != api.OK {
				t.Errorf("%s for %s: %v, %d", a, b, ok, code)
			}
		}
	}
	for _, p := range pairs("a z", "z a", "z z", "A b", "a bb") {
		if ok, code := Acts(l, acts, p[0], p[1]); ok || code != api.ErrWho {
			t.Errorf("%s for %s: %v, %d", p[0], p[1], ok, code)
		}
	}
	for _, p := range [][2]string{{"", "a"}, {"a", ""}, {"", ""}} {
		if ok, code := Acts(l, acts, p[0], p[1]); ok || code != api.ErrWho {
			t.Errorf("%q for %q: %v, %d", p[0], p[1], ok, code)
		}
	}
	if ok, code := Acts(nil, nil, "a", "a"); ok || code != api.ErrWho {
		t.Errorf("where nobody is: %v, %d", ok, code)
	}
}

func TestFor(t *testing.T) {
	for _, c := range []struct {
		l    string
		acts [][2]string
		b    string
		want string
		code api.Errno
	}{
		{"a", nil, "a", "a", api.OK},
		{"a b", nil, "b", "b", api.OK},
		{"a b", pairs("a b"), "b", "a b", api.OK},
		{"a b", pairs("a b"), "a", "a", api.OK},
		{"b a", pairs("a b"), "b", "b a", api.OK},
		{"f e d c b a", pairs("a b", "b c", "c d", "d e", "e f"), "d", "d c b a", api.OK},
		{"f e d c b a", pairs("e f", "d e", "c d", "b c", "a b"), "f", "f e d c b a", api.OK},
		{"a b c d e f", pairs("a b", "b c", "c d", "d e", "e f", "f a"), "c", "a b c d e f", api.OK},
		{"a b c d", pairs("a b", "b a", "c d", "c c"), "b", "a b", api.OK},
		{"a b c d", pairs("d b", "c d", "c a"), "b", "b c d", api.OK},
		{"a b", pairs("a b"), "z", "", api.ErrWho},
		{"a b", pairs("a b"), "", "", api.ErrWho},
		{"", nil, "a", "", api.ErrWho},
	} {
		out, code := For(names(c.l), c.acts, c.b)
		if strings.Join(out, " ") != c.want || code != c.code {
			t.Errorf("For(%s, %s, %q): %q, %d; want %q, %d", c.l, c.acts, c.b, out, code, c.want, c.code)
		}
	}
}

// P2.3

func TestLeast(t *testing.T) {
	for _, c := range []struct {
		l    string
		acts [][2]string
		want [][2]string
		code api.Errno
	}{
		{"", nil, nil, api.OK},
		{"a b", nil, nil, api.OK},
		{"a b", pairs("a a", "b b"), nil, api.OK},
		{"a b", pairs("a b", "a b", "a a"), pairs("a b"), api.OK},
		{"a b c", pairs("a c", "b c", "a b"), pairs("a b", "b c"), api.OK},
		{"c b a", pairs("a c", "b c", "a b"), pairs("b c", "a b"), api.OK},
		{"d c b a", pairs("a b", "a c", "b d", "c d", "a d"), pairs("c d", "b d", "a c", "a b"), api.OK},
		{"a b c d e f", pairs("e f", "d f", "d e", "c d", "b d", "b c", "a d", "a b"), pairs("a b", "b c", "c d", "d e", "e f"), api.OK},
		{"a b c d e f", pairs("c f", "c e", "c d", "b f", "b e", "b d", "a f", "a e", "a d"), pairs("a d", "a e", "a f", "b d", "b e", "b f", "c d", "c e", "c f"), api.OK},
		{"a b", pairs("a b", "b a"), nil, api.ErrForm},
		{"a b c", pairs("a b", "b c", "c a"), nil, api.ErrForm},
		{"a b c d e f", pairs("a b", "b c", "c d", "e f", "f e"), nil, api.ErrForm},
		{"a b c d e f", pairs("f e", "e d", "d c", "c b", "b a", "a f"), nil, api.ErrForm},
	} {
		out, code := Least(names(c.l), c.acts)
		if !slices.Equal(out, c.want) || code != c.code {
			t.Errorf("Least(%s, %s): %s, %d; want %s, %d", c.l, c.acts, out, code, c.want, c.code)
		}
	}
}

// P2.2 to P2.4 of all ways in which three chiefs may act for one another, and of many of six.

func TestAllOfThree(t *testing.T) {
	l := names("b c a")
	for m := 0; m < 1<<9; m++ {
		var acts [][2]string
		for k := 0; k < 9; k++ {
			if m>>k&1 == 1 {
				acts = append(acts, pair(l[k%3], l[k/3]))
			}
		}
		agrees(t, l, acts)
	}
}

func TestManyOfSix(t *testing.T) {
	l := names("e b f a d c")
	state := uint32(7)
	next := func(n int) int {
		state = state*1664525 + 1013904223
		return int(state>>16) % n
	}
	for i := 0; i < 4000; i++ {
		var acts [][2]string
		for len(acts) < i%(api.MaxActs+1) {
			a, b := next(6), next(6)
			// Half of them have nobody act for another one in a round.
			if i%2 == 0 && l[a] > l[b] {
				a, b = b, a
			}
			acts = append(acts, pair(l[a], l[b]))
		}
		agrees(t, l, acts)
	}
}

// agrees holds what is answered against what is found by going from one to the next.
func agrees(t *testing.T, l []string, acts [][2]string) {
	t.Helper()
	round := false
	for _, b := range l {
		var all []string
		for _, a := range l {
			want := goes(acts, a, b)
			if ok, code := Acts(l, acts, a, b); ok != want || code != api.OK {
				t.Fatalf("%s: %s for %s: %v, %d", acts, a, b, ok, code)
			}
			if want {
				all = append(all, a)
			}
			round = round || a != b && want && goes(acts, b, a)
		}
		if out, code := For(l, acts, b); !slices.Equal(out, all) || code != api.OK {
			t.Fatalf("%s: For %s: %s, %d, want %s", acts, b, out, code, all)
		}
	}
	least, code := Least(l, acts)
	if round {
		if len(least) > 0 || code != api.ErrForm {
			t.Fatalf("%s: Least: %s, %d", acts, least, code)
		}
		return
	}
	if code != api.OK || !slices.IsSortedFunc(least, byPlace(l)) {
		t.Fatalf("%s: Least: %s, %d", acts, least, code)
	}
	leastIsLeast(t, l, acts, least)
}

// P2.4: the same act for the same, and without one of the pairs they don't.
func leastIsLeast(t *testing.T, l []string, acts, least [][2]string) {
	t.Helper()
	if code := Check(l, least); code != api.OK {
		t.Fatalf("%s: Least can't be handed in: %s, %d", acts, least, code)
	}
	if !slices.Equal(who(l, least), who(l, acts)) {
		t.Fatalf("%s: of Least others act for others: %s", acts, least)
	}
	for i := range least {
		if slices.Equal(who(l, slices.Delete(slices.Clone(least), i, i+1)), who(l, acts)) {
			t.Fatalf("%s: Least has a pair too much: %s", acts, least)
		}
	}
}

// goes: is there a way from a to b by pairs?
func goes(acts [][2]string, a, b string) bool {
	seen := []string{a}
	for i := 0; i < len(seen); i++ {
		for _, p := range acts {
			if p[0] == seen[i] && !slices.Contains(seen, p[1]) {
				seen = append(seen, p[1])
			}
		}
	}
	return slices.Contains(seen, b)
}

// who: all pairs of which the first acts for the second.
func who(l []string, acts [][2]string) (out [][2]string) {
	for _, a := range l {
		for _, b := range l {
			if ok, _ := Acts(l, acts, a, b); ok {
				out = append(out, pair(a, b))
			}
		}
	}
	return out
}

func byPlace(l []string) func(p, q [2]string) int {
	place := func(p [2]string) int { return slices.Index(l, p[0])*len(l) + slices.Index(l, p[1]) }
	return func(p, q [2]string) int { return place(p) - place(q) }
}

// P2 of DOC.md

func TestReadsAlone(t *testing.T) {
	room := names("b a spare room")
	more := pairs("a b", "b b", "spare room")
	l, acts := room[:2], more[:2]
	Check(l, acts)
	Acts(l, acts, "a", "b")
	For(l, acts, "b")
	Least(l, acts)
	if !slices.Equal(room, names("b a spare room")) || !slices.Equal(more, pairs("a b", "b b", "spare room")) {
		t.Errorf("changed: %s, %s", room, more)
	}
}

func TestAnswersNewMemory(t *testing.T) {
	l, acts := names("a b"), pairs("a b")
	out, _ := For(l, acts, "b")
	least, _ := Least(l, acts)
	for _, s := range []string{out[0], least[0][0], acts[0][0]} {
		if s != "a" {
			t.Fatalf("%q", s)
		}
	}
	if unsafe.StringData(out[0]) == unsafe.StringData(l[0]) || unsafe.StringData(least[0][0]) == unsafe.StringData(l[0]) || unsafe.StringData(least[0][1]) == unsafe.StringData(l[1]) {
		t.Error("a name that is answered is what was handed in")
	}
	out[0], least[0][0] = "z", "z"
	if l[0] != "a" || acts[0][0] != "a" {
		t.Error("a list that is answered is what was handed in")
	}
	if again, _ := For(l, acts, "b"); !slices.Equal(again, names("a b")) {
		t.Errorf("another answer is changed: %s", again)
	}
}

func names(s string) []string {
	var out []string
	for _, n := range strings.Fields(s) {
		out = append(out, strings.Clone(n))
	}
	return out
}

func pair(a, b string) [2]string { return [2]string{a, b} }

func pairs(l ...string) [][2]string {
	var out [][2]string
	for _, s := range l {
		a, b, _ := strings.Cut(s, " ")
		out = append(out, pair(a, b))
	}
	return out
}

func ten(p [2]string) [][2]string {
	var out [][2]string
	for range api.MaxActs {
		out = append(out, p)
	}
	return out
}
