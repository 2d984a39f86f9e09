package label

import (
	"reflect"
	"slices"
	"strings"
	"testing"
	"unsafe"

	"cloister/api"
)

// P3.1

func TestCheck(t *testing.T) {
	abc := names("a b c")
	for _, c := range []struct {
		what   string
		chiefs []string
		acts   [][2]string
		l      api.Label
		want   api.Errno
	}{
		{"nobody, nothing", nil, nil, nil, api.OK},
		{"nobody, empty lists", []string{}, [][2]string{}, api.Label{}, api.OK},
		{"no policy", abc, pairs("a b"), nil, api.OK},
		{"some", abc, nil, lab("a:b,c;b:"), api.OK},
		{"twice the same", abc, nil, lab("a:b,b,b;a:a;a:b,b,b"), api.OK},
		{"as many Readers as may be", abc, nil, lab("a:a,b,c,a,b,c"), api.OK},
		{"as many policies as may be", abc, nil, many("a:b", api.MaxPolicies), api.OK},
		{"too many policies", abc, nil, many("a:b", api.MaxPolicies+1), api.ErrMany},
		{"far too many policies", abc, nil, make(api.Label, 100000), api.ErrMany},
		{"too many Readers", abc, nil, lab("a:a,b,c,a,b,c,a"), api.ErrMany},
		{"far too many Readers", abc, nil, api.Label{{Owner: "a", Readers: make([]string, 100000)}}, api.ErrMany},
		{"Owner is none", abc, nil, lab("z:a"), api.ErrWho},
		{"Owner has no name", abc, nil, api.Label{{}}, api.ErrWho},
		{"Owner of another case", abc, nil, lab("A:"), api.ErrWho},
		{"the first Reader is none", abc, nil, lab("a:z,b"), api.ErrWho},
		{"the last Reader is none", abc, nil, lab("a:b,c,z"), api.ErrWho},
		{"a Reader has no name", abc, nil, api.Label{{Owner: "a", Readers: []string{""}}}, api.ErrWho},
		{"the last policy", abc, nil, lab("a:;b:c;c:a,bb"), api.ErrWho},
		{"a policy of nobody", nil, nil, lab("a:"), api.ErrWho},
		{"Readers ahead of Owner", abc, nil, lab("z:a,a,a,a,a,a,a"), api.ErrMany},
		{"Readers ahead of one of them", abc, nil, lab("a:z,a,a,a,a,a,a"), api.ErrMany},
		{"policies ahead of who", abc, nil, many("z:", api.MaxPolicies+1), api.ErrMany},
		{"the first policy's who ahead of the second's Readers", abc, nil, lab("z:;a:a,a,a,a,a,a,a"), api.ErrWho},
		{"the first policy's Readers ahead of the second's who", abc, nil, lab("a:a,a,a,a,a,a,a;z:"), api.ErrMany},
		{"chiefs that are too many", names("a b c d e f g"), nil, lab("z:"), api.ErrMany},
		{"pairs that are too many", abc, make([][2]string, api.MaxActs+1), lab("z:"), api.ErrMany},
		{"a chief that is no Name", names("a if"), nil, many("z:", api.MaxPolicies+1), api.ErrForm},
		{"a chief twice", names("a a"), nil, many("z:", api.MaxPolicies+1), api.ErrTwice},
		{"a pair of no chiefs", abc, pairs("a z"), many("a:", api.MaxPolicies+1), api.ErrWho},
	} {
		if got := Check(c.chiefs, c.acts, c.l); got != c.want {
			t.Errorf("%s: %d, want %d", c.what, got, c.want)
		}
		if c.want != api.OK {
			refused(t, c.what, c.chiefs, c.acts, c.l, c.want)
		}
	}
}

// refused: the others tell Check's error, and nothing else, whichever of their labels it is of.
func refused(t *testing.T, what string, chiefs []string, acts [][2]string, l api.Label, want api.Errno) {
	t.Helper()
	tell := func(name string, zero bool, code api.Errno) {
		t.Helper()
		if !zero || code != want {
			t.Errorf("%s: %s: %v, %d, want %d", what, name, zero, code, want)
		}
	}
	reads, code := Reads(chiefs, acts, l)
	tell("Reads", len(reads) == 0, code)
	out, code := Normal(chiefs, acts, l)
	tell("Normal", len(out) == 0, code)
	for _, by := range [][]string{nil, names("a"), names("nobody"), make([]string, 7)} {
		out, code = Less(chiefs, acts, l, by)
		tell("Less", len(out) == 0, code)
	}
	for _, pair := range [][2]api.Label{{l, nil}, {nil, l}, {l, l}} {
		ok, code := Flows(chiefs, acts, pair[0], pair[1])
		tell("Flows", !ok, code)
		out, code = Join(chiefs, acts, pair[0], pair[1])
		tell("Join", len(out) == 0, code)
	}
}

func TestLabelsInOrder(t *testing.T) {
	abc := names("a b c")
	tooMany, nobody := many("a:", api.MaxPolicies+1), lab("z:")
	for _, c := range []struct {
		a, b api.Label
		want api.Errno
	}{
		{tooMany, nobody, api.ErrMany},
		{nobody, tooMany, api.ErrWho},
	} {
		if ok, code := Flows(abc, nil, c.a, c.b); ok || code != c.want {
			t.Errorf("Flows: %v, %d, want %d", ok, code, c.want)
		}
		if out, code := Join(abc, nil, c.a, c.b); len(out) > 0 || code != c.want {
			t.Errorf("Join: %v, %d, want %d", out, code, c.want)
		}
	}
}

// P3.2

func TestFlows(t *testing.T) {
	for _, c := range []struct {
		acts [][2]string
		a, b string
		want bool
	}{
		{nil, "", "", true},
		{nil, "", "a:b", true},
		{nil, "a:b", "", false},
		{nil, "a:a,b,c", "", false},
		{nil, "a:b", "a:b", true},
		{nil, "a:b", "a:", true},
		{nil, "a:", "a:b", false},
		{nil, "a:", "a:a", true},
		{nil, "a:b", "a:a,b,b", true},
		{nil, "a:b,c", "a:c", true},
		{nil, "a:b", "a:c", false},
		{nil, "a:", "b:", false},
		{nil, "a:b", "b:a", false},
		{nil, "a:b;b:", "b:;a:", true},
		{nil, "a:b;b:", "a:", false},
		{nil, "a:b;a:c", "a:", true},
		{nil, "a:", "a:b;a:c", false},
		{nil, "a:b,c", "a:b;b:;c:", true},
		{pairs("c b"), "a:b", "a:c", true},
		{pairs("c b"), "a:c", "a:b", false},
		{pairs("c b"), "b:", "c:", true},
		{pairs("c b"), "c:", "b:", false},
		{pairs("c b"), "b:", "b:c", true},
		{pairs("c b"), "b:", "c:b", true},
		{pairs("c b"), "b:a", "c:a", true},
		{pairs("c b"), "b:", "c:a", false},
		{pairs("c b", "b a"), "a:", "c:a,b,c", true},
		{pairs("c b", "b a"), "c:", "a:", false},
		{pairs("a b", "b a"), "a:", "b:", true},
		{pairs("a b", "b a"), "b:a", "a:", true},
	} {
		ok, code := Flows(names("a b c"), c.acts, lab(c.a), lab(c.b))
		if ok != c.want || code != api.OK {
			t.Errorf("%s: {%s} to {%s}: %v, %d", c.acts, c.a, c.b, ok, code)
		}
	}
}

func TestReads(t *testing.T) {
	for _, c := range []struct {
		chiefs string
		acts   [][2]string
		l      string
		want   string
	}{
		{"", nil, "", ""},
		{"a b c", nil, "", "a b c"},
		{"c a b", nil, "", "c a b"},
		{"a b c", nil, "a:", "a"},
		{"a b c", nil, "a:b", "a b"},
		{"b c a", nil, "a:b", "b a"},
		{"a b c", nil, "a:b;b:", "b"},
		{"a b c", nil, "a:;b:", ""},
		{"a b c", nil, "a:b,c;b:c;c:b,a", "b c"},
		{"a b c", pairs("c a"), "a:", "a c"},
		{"a b c", pairs("c a"), "c:", "c"},
		{"a b c", pairs("c b"), "a:b", "a b c"},
		{"a b c d", pairs("d c", "c b"), "a:b", "a b c d"},
		{"A B C", pairs("C A", "C B"), "A:B;B:", "B C"},
		{"A B C", pairs("C A", "C B"), "A:;B:", "C"},
		{"f e d c b a", pairs("a b", "b c", "c d", "d e", "e f"), "d:;f:;c:b", "c b a"},
		{"a b c", pairs("a b", "b c", "c a"), "a:;b:;c:", "a b c"},
	} {
		out, code := Reads(names(c.chiefs), c.acts, lab(c.l))
		if strings.Join(out, " ") != c.want || code != api.OK {
			t.Errorf("%s, %s: {%s}: %s, %d, want %s", c.chiefs, c.acts, c.l, out, code, c.want)
		}
	}
}

// P3.3

func TestNormal(t *testing.T) {
	for _, c := range []struct {
		acts [][2]string
		l    string
		want string
	}{
		{nil, "", ""},
		{nil, "a:", "a:"},
		{nil, "a:a,a", "a:"},
		{nil, "a:c,b,a,c,b", "a:b,c"},
		{nil, "b:;a:", "a:;b:"},
		{nil, "b:;a:;b:;a:", "a:;b:"},
		{nil, "a:c;a:b", "a:b;a:c"},
		{nil, "a:b,c;a:b,d;a:c,d", "a:b,c;a:b,d;a:c,d"},
		{nil, "a:c,d;a:b;a:c", "a:b;a:c"},
		{nil, "a:d;a:b,c", "a:b,c;a:d"},
		{nil, "a:b,c;a:b", "a:b"},
		{nil, "a:b,c;a:b;a:", "a:"},
		{nil, "a:b;b:a", "a:b;b:a"},
		{pairs("c b"), "b:;c:", "c:"},
		{pairs("c b"), "c:;b:;a:", "a:;c:"},
		{pairs("c b"), "b:;c:a", "b:;c:a"},
		{pairs("c b"), "a:b;a:c", "a:c"},
		{pairs("c b"), "a:b,c", "a:b,c"},
		{pairs("c b"), "a:b,c;a:b", "a:b"},
		{pairs("c a"), "a:c", "a:c"},
		{pairs("c a"), "a:c;a:", "a:"},
		{pairs("c a"), "a:b;a:b,c", "a:b"},
		{pairs("a b", "b a"), "b:;a:", "a:"},
		{pairs("a b", "b a"), "b:;a:b", "a:b"},
		{pairs("b c", "c b"), "a:b,c;a:b", "a:b"},
		{pairs("b c", "c b"), "a:c;a:b", "a:b"},
		{pairs("b c", "c b"), "a:c;a:b,c", "a:b,c"},
		{pairs("b c", "c b"), "a:b,c;a:c", "a:b,c"},
		{pairs("a b", "b c", "c a"), "c:;b:a;a:b,c;a:c", "a:b,c"},
		{pairs("d c", "c b", "b a"), "a:;b:;c:;d:", "d:"},
		{pairs("d c", "c b", "b a"), "d:a;c:b;b:c;a:d", "c:b;d:a"},
	} {
		out, code := Normal(names("d c b a"), c.acts, lab(c.l))
		if show(out) != c.want || code != api.OK {
			t.Errorf("%s: {%s}: {%s}, %d, want {%s}", c.acts, c.l, show(out), code, c.want)
		}
	}
}

func TestNormalRises(t *testing.T) {
	for _, c := range []struct{ chiefs, l, want string }{
		{"b B a A", "B:;a:;A:;b:", "A:;B:;a:;b:"},
		{"b B a A _ a1", "a:b,B,_,a1,A", "a:A,B,_,a1,b"},
		{"b B a _ a1 a_", "a_:;a1:;a:;B:;_:;b:", "B:;_:;a:;a1:;a_:;b:"},
		{"a ab abc b c", "c:b;ab:c;c:ab,abc;a:b;ab:abc;a:ab,c", "a:ab,c;a:b;ab:abc;ab:c;c:ab,abc;c:b"},
		{"z a a1 b c", "z:a1,b;z:a,c;z:c,b;z:b,a", "z:a,b;z:a,c;z:a1,b;z:b,c"},
	} {
		out, code := Normal(names(c.chiefs), nil, lab(c.l))
		if show(out) != c.want || code != api.OK {
			t.Errorf("{%s}: {%s}, %d, want {%s}", c.l, show(out), code, c.want)
		}
	}
}

func TestJoin(t *testing.T) {
	for _, c := range []struct {
		acts       [][2]string
		a, b, want string
	}{
		{nil, "", "", ""},
		{nil, "a:c,b", "", "a:b,c"},
		{nil, "", "a:c,b", "a:b,c"},
		{nil, "a:b", "a:", "a:"},
		{nil, "b:", "a:", "a:;b:"},
		{nil, "a:b", "a:c", "a:b;a:c"},
		{nil, "b:;a:b", "b:;a:b", "a:b;b:"},
		{pairs("c b"), "b:", "c:", "c:"},
		{pairs("c b"), "c:", "b:", "c:"},
		{pairs("a b", "b a"), "b:", "a:", "a:"},
	} {
		out, code := Join(names("a b c"), c.acts, lab(c.a), lab(c.b))
		if show(out) != c.want || code != api.OK {
			t.Errorf("%s: {%s} and {%s}: {%s}, %d, want {%s}", c.acts, c.a, c.b, show(out), code, c.want)
		}
	}
}

func TestJoinOfManyPolicies(t *testing.T) {
	a, b := many("a:b", api.MaxPolicies), many("b:a", api.MaxPolicies)
	out, code := Join(names("a b"), nil, a, b)
	if show(out) != "a:b;b:a" || code != api.OK {
		t.Errorf("{%s}, %d", show(out), code)
	}
}

func TestAllPoliciesOfSix(t *testing.T) {
	chiefs := names("f e d c b a")
	var l api.Label
	for _, o := range chiefs {
		for m := 0; m < 1<<6; m++ {
			if p := policy(chiefs, o, m); !slices.Contains(p.Readers, o) {
				l = append(l, p)
			}
		}
	}
	if out, code := Normal(chiefs, nil, l); show(out) != "a:;b:;c:;d:;e:;f:" || code != api.OK {
		t.Errorf("{%s}, %d", show(out), code)
	}
	two := slices.DeleteFunc(slices.Clone(l), func(p api.Policy) bool { return len(p.Readers) != 2 })
	out, code := Normal(chiefs, nil, two)
	if len(out) != 60 || code != api.OK || show(out) != show(byDefinition(chiefs, nil, two)) {
		t.Errorf("%d policies, {%s}, %d", len(out), show(out), code)
	}
}

func TestLess(t *testing.T) {
	for _, c := range []struct {
		acts [][2]string
		l    string
		by   []string
		want string
		code api.Errno
	}{
		{nil, "", nil, "", api.OK},
		{nil, "", names("a b c"), "", api.OK},
		{nil, "b:;a:c,b,a", nil, "a:b,c;b:", api.OK},
		{nil, "b:;a:", []string{}, "a:;b:", api.OK},
		{nil, "b:;a:", names("a"), "b:", api.OK},
		{nil, "b:;a:b;a:c;a:", names("a"), "b:", api.OK},
		{nil, "b:a;c:a", names("a"), "b:a;c:a", api.OK},
		{nil, "b:;a:;c:", names("c a"), "b:", api.OK},
		{nil, "b:;a:", names("a a a b b b"), "", api.OK},
		{nil, "b:;a:", names("a a a b b b b"), "", api.ErrMany},
		{nil, "b:;a:", make([]string, 100000), "", api.ErrMany},
		{nil, "b:;a:", names("z a a a b b b"), "", api.ErrMany},
		{nil, "b:;a:", names("z"), "", api.ErrWho},
		{nil, "b:;a:", names("a b c z"), "", api.ErrWho},
		{nil, "", []string{""}, "", api.ErrWho},
		{pairs("c b"), "b:;a:", names("c"), "a:", api.OK},
		{pairs("c b"), "c:;b:;a:", names("b"), "a:;c:", api.OK},
		{pairs("c b"), "c:a;b:;a:", names("b"), "a:;c:a", api.OK},
		{pairs("c b", "b a"), "a:;b:;c:", names("c"), "", api.OK},
		{pairs("c b", "b a"), "a:;b:c;c:a", names("b"), "c:a", api.OK},
		{pairs("a b", "b a"), "b:;a:;c:", names("b"), "c:", api.OK},
	} {
		out, code := Less(names("a b c"), c.acts, lab(c.l), c.by)
		if show(out) != c.want || code != c.code {
			t.Errorf("%s: {%s} by %.40q: {%s}, %d, want {%s}, %d", c.acts, c.l, c.by, show(out), code, c.want, c.code)
		}
	}
}

// P3.4

func TestPrint(t *testing.T) {
	longest := strings.Repeat("x", api.MaxName)
	for _, c := range []struct {
		what string
		l    api.Label
		want string
		code api.Errno
	}{
		{"nothing", nil, "{}", api.OK},
		{"an empty list", api.Label{}, "{}", api.OK},
		{"one", lab("a:"), "{a:}", api.OK},
		{"an empty list of Readers", api.Label{{Owner: "a", Readers: []string{}}}, "{a:}", api.OK},
		{"a Reader", lab("a:b"), "{a:b}", api.OK},
		{"as it stands", lab("b:c,b,c;a:;b:c"), "{b:c,b,c;a:;b:c}", api.OK},
		{"as many Readers as may be", lab("a:b,c,d,e,f,g"), "{a:b,c,d,e,f,g}", api.OK},
		{"long names", api.Label{{Owner: longest, Readers: []string{longest}}}, "{" + longest + ":" + longest + "}", api.OK},
		{"no names", api.Label{{}, {Readers: []string{"", ""}}}, "{:;:,}", api.OK},
		{"no Names", api.Label{{Owner: "if", Readers: []string{"1", ";\xff"}}}, "{if:1,;\xff}", api.OK},
		{"as many policies as may be", many("a:b", api.MaxPolicies), "{a:b" + strings.Repeat(";a:b", api.MaxPolicies-1) + "}", api.OK},
		{"too many policies", many("a:b", api.MaxPolicies+1), "", api.ErrMany},
		{"too many Readers", lab("a:b,c,d,e,f,g,h"), "", api.ErrMany},
		{"too many Readers in the last one", lab("a:;a:b,c,d,e,f,g,h"), "", api.ErrMany},
		{"too long an Owner", api.Label{{Owner: longest + "x"}}, "", api.ErrMany},
		{"too long an Owner in the last one", api.Label{{Owner: "a"}, {Owner: longest + "x"}}, "", api.ErrMany},
		{"too long a Reader", api.Label{{Owner: "a", Readers: []string{"b", longest + "x"}}}, "", api.ErrMany},
	} {
		if s, code := Print(c.l); s != c.want || code != c.code {
			t.Errorf("%s: %.60q, %d, want %.60q, %d", c.what, s, code, c.want, c.code)
		}
	}
}

// P3.5

// TestSmall holds all labels of at most two policies of three chiefs against each other, in some orders of these.
func TestSmall(t *testing.T) {
	chiefs := names("b a c")
	all := smallLabels(chiefs)
	for _, acts := range [][][2]string{
		nil, pairs("a b"), pairs("a b", "b a"), pairs("c b", "b a"), pairs("a b", "a c"), pairs("a c", "b c"), pairs("a b", "b c", "c a"), pairs("b c", "c b", "a b"),
	} {
		for _, a := range all {
			for _, b := range all {
				joinIsLeast(t, chiefs, acts, a, b, all)
			}
		}
	}
}

// joinIsLeast: both may go to Join, and it to each of all to which both may go.
func joinIsLeast(t *testing.T, chiefs []string, acts [][2]string, a, b api.Label, all []api.Label) {
	t.Helper()
	r := reach(chiefs, acts)
	join, code := Join(chiefs, acts, a, b)
	if code != api.OK || !r.flows(a, join) || !r.flows(b, join) {
		t.Fatalf("%s: Join of {%s} and {%s}: {%s}, %d", acts, show(a), show(b), show(join), code)
	}
	ok, code := Flows(chiefs, acts, a, b)
	if code != api.OK || ok != r.flows(a, b) {
		t.Fatalf("%s: {%s} to {%s}: %v, %d", acts, show(a), show(b), ok, code)
	}
	for _, c := range all {
		if (r.flows(a, c) && r.flows(b, c)) != r.flows(join, c) {
			t.Fatalf("%s: Join of {%s} and {%s}: {%s} isn't the least: {%s}", acts, show(a), show(b), show(join), show(c))
		}
	}
}

// TestManyOfSix holds what is answered of many labels of six chiefs against what the words say, found by other means.
func TestManyOfSix(t *testing.T) {
	chiefs := names("e b f a d c")
	next := numbers(11)
	for i := 0; i < 2500; i++ {
		acts := someActs(chiefs, next, i%(api.MaxActs+1))
		a, b := someLabel(chiefs, next), someLabel(chiefs, next)
		if i%3 == 0 {
			b = slices.Concat(b, a)
		}
		agrees(t, chiefs, acts, a, b)
		more := append(slices.Clone(acts), someActs(chiefs, next, api.MaxActs-len(acts))...)
		fewerRead(t, chiefs, acts, more, a, b)
		lessAgrees(t, chiefs, acts, a, someNames(chiefs, next))
	}
}

func agrees(t *testing.T, chiefs []string, acts [][2]string, a, b api.Label) {
	t.Helper()
	r := reach(chiefs, acts)
	if ok, code := Flows(chiefs, acts, a, b); ok != r.flows(a, b) || code != api.OK {
		t.Fatalf("%s: {%s} to {%s}: %v, %d", acts, show(a), show(b), ok, code)
	}
	if out, code := Reads(chiefs, acts, a); !slices.Equal(out, r.reads(a)) || code != api.OK {
		t.Fatalf("%s: {%s} is read by %s, %d", acts, show(a), out, code)
	}
	out, code := Normal(chiefs, acts, a)
	if show(out) != show(byDefinition(chiefs, acts, a)) || code != api.OK {
		t.Fatalf("%s: Normal of {%s}: {%s}, %d", acts, show(a), show(out), code)
	}
	if !r.flows(a, out) || !r.flows(out, a) {
		t.Fatalf("%s: {%s} and its Normal {%s} aren't worth the same", acts, show(a), show(out))
	}
	if again, code := Normal(chiefs, acts, out); show(again) != show(out) || code != api.OK {
		t.Fatalf("%s: Normal of {%s}: {%s}, %d", acts, show(out), show(again), code)
	}
	join, code := Join(chiefs, acts, a, b)
	if show(join) != show(byDefinition(chiefs, acts, slices.Concat(a, b))) || code != api.OK {
		t.Fatalf("%s: Join of {%s} and {%s}: {%s}, %d", acts, show(a), show(b), show(join), code)
	}
}

// fewerRead: where it may go to fewer read, with more pairs, too.
func fewerRead(t *testing.T, chiefs []string, acts, more [][2]string, a, b api.Label) {
	t.Helper()
	join, _ := Join(chiefs, acts, a, b)
	for _, to := range []api.Label{b, join} {
		if ok, _ := Flows(chiefs, acts, a, to); !ok {
			continue
		}
		for _, now := range [][][2]string{acts, more} {
			many, code := Reads(chiefs, now, a)
			few, code2 := Reads(chiefs, now, to)
			if code != api.OK || code2 != api.OK || slices.ContainsFunc(few, func(c string) bool { return !slices.Contains(many, c) }) {
				t.Fatalf("%s: {%s} is read by %s, {%s} by %s", now, show(a), many, show(to), few)
			}
		}
		if ok, _ := Flows(chiefs, more, a, to); !ok {
			t.Fatalf("%s: {%s} may not go to {%s} any more: %s", acts, show(a), show(to), more)
		}
	}
}

func lessAgrees(t *testing.T, chiefs []string, acts [][2]string, l api.Label, by []string) {
	t.Helper()
	var left api.Label
	for _, p := range l {
		if !slices.ContainsFunc(by, func(c string) bool { return goes(acts, c, p.Owner) }) {
			left = append(left, p)
		}
	}
	out, code := Less(chiefs, acts, l, by)
	if show(out) != show(byDefinition(chiefs, acts, left)) || code != api.OK {
		t.Fatalf("%s: {%s} by %s: {%s}, %d", acts, show(l), by, show(out), code)
	}
}

// P2 of DOC.md

func TestReadsAlone(t *testing.T) {
	given := func() ([]string, [][2]string, api.Label, api.Label, []string) {
		readers := names("c b a c spare room")
		a := append(lab("b:;a:;a:b,b"), api.Policy{Owner: "c", Readers: readers[:4]}, api.Policy{Owner: "spare"})
		return names("c b a spare room"), pairs("c b", "spare room"), a, lab("c:;b:a;spare:room"), names("b a spare room")
	}
	chiefs, acts, a, b, by := given()
	few, some := chiefs[:3], acts[:1]
	Check(few, some, a[:4])
	Flows(few, some, a[:4], b[:2])
	Reads(few, some, a[:4])
	Normal(few, some, a[:4])
	Join(few, some, a[:4], b[:2])
	Less(few, some, a[:4], by[:2])
	Print(a[:4])
	chiefs2, acts2, a2, b2, by2 := given()
	if !reflect.DeepEqual([]any{chiefs, acts, a, b, by}, []any{chiefs2, acts2, a2, b2, by2}) || show(a[:5]) != show(a2[:5]) {
		t.Errorf("changed: %v %v %v %v %v", chiefs, acts, a, b, by)
	}
	if room := a[3].Readers[:6]; !slices.Equal(room, names("c b a c spare room")) {
		t.Errorf("changed: %s", room)
	}
}

func TestAnswersNewMemory(t *testing.T) {
	chiefs, l := names("a b c d"), lab("a:b,c;a:b,d;b:c,d;c:d")
	was := show(l)
	answers := func() []api.Label {
		n, _ := Normal(chiefs, nil, l)
		j, _ := Join(chiefs, nil, l, nil)
		k, _ := Join(chiefs, nil, nil, l)
		s, _ := Less(chiefs, nil, l, nil)
		return []api.Label{n, j, k, s}
	}
	for i, out := range answers() {
		if show(out) != was {
			t.Fatalf("{%s}", show(out))
		}
		ownText(t, out, l)
		for k := range out {
			// What is appended to one list may not come to lie in another one.
			_ = append(out[k].Readers, "x", "y", "z")
			out[k].Readers[0] = "z"
			if got := strings.Count(show(out), "z"); got != k+1 {
				t.Errorf("answer %d: lists share memory: {%s}", i, show(out))
			}
			out[k].Owner = "b"
		}
		if show(l) != was || show(answers()[i]) != was {
			t.Errorf("answer %d shares memory with what was handed in: {%s}", i, show(l))
		}
	}
	reads, _ := Reads(chiefs, nil, nil)
	if unsafe.StringData(reads[0]) == unsafe.StringData(chiefs[0]) {
		t.Error("a name that is answered is what was handed in")
	}
	reads[0] = "z"
	if chiefs[0] != "a" {
		t.Error("a list that is answered is what was handed in")
	}
}

func ownText(t *testing.T, out, l api.Label) {
	t.Helper()
	for i := range out {
		if unsafe.StringData(out[i].Owner) == unsafe.StringData(l[i].Owner) || unsafe.StringData(out[i].Readers[0]) == unsafe.StringData(l[i].Readers[0]) {
			t.Error("a name that is answered is what was handed in")
		}
	}
}

// ref says what the words of the document say, by sets of chiefs that are numbers.
type ref struct {
	chiefs []string
	above  map[string]int // who acts for it
}

func reach(chiefs []string, acts [][2]string) ref {
	r := ref{chiefs, map[string]int{}}
	for _, b := range chiefs {
		for i, a := range chiefs {
			if goes(acts, a, b) {
				r.above[b] |= 1 << i
			}
		}
	}
	return r
}

func (r ref) lets(p api.Policy) int {
	m := r.above[p.Owner]
	for _, c := range p.Readers {
		m |= r.above[c]
	}
	return m
}

func (r ref) covers(q, p api.Policy) bool {
	readers := 0
	for _, c := range q.Readers {
		readers |= 1 << slices.Index(r.chiefs, c)
	}
	return r.above[p.Owner]>>slices.Index(r.chiefs, q.Owner)&1 == 1 && readers&^r.lets(p) == 0
}

func (r ref) flows(a, b api.Label) bool {
	for _, p := range a {
		found := false
		for _, q := range b {
			found = found || r.covers(q, p)
		}
		if !found {
			return false
		}
	}
	return true
}

func (r ref) reads(l api.Label) (out []string) {
	m := 1<<len(r.chiefs) - 1
	for _, p := range l {
		m &= r.lets(p)
	}
	for i, c := range r.chiefs {
		if m>>i&1 == 1 {
			out = append(out, c)
		}
	}
	return out
}

// byDefinition does what Normal must, word by word: all ahead of leaving some out, each held against each. (Names are letters: so texts rise as policies do.)
func byDefinition(chiefs []string, acts [][2]string, l api.Label) (out api.Label) {
	r := reach(chiefs, acts)
	sorted := slices.Clone(chiefs)
	slices.Sort(sorted)
	var texts []string
	for _, p := range l {
		var readers []string
		for _, c := range sorted {
			if c != p.Owner && slices.Contains(p.Readers, c) {
				readers = append(readers, c)
			}
		}
		if s := p.Owner + ":" + strings.Join(readers, ","); !slices.Contains(texts, s) {
			texts = append(texts, s)
		}
	}
	slices.Sort(texts)
	these := lab(strings.Join(texts, ";"))
	for i, p := range these {
		stays := true
		for j, q := range these {
			if i != j && r.covers(q, p) && (j < i || !r.covers(p, q)) {
				stays = false
			}
		}
		if stays {
			out = append(out, p)
		}
	}
	return out
}

// goes: is there a way from a to b by pairs?
func goes(acts [][2]string, a, b string) bool {
	seen := []string{a}
	for i := 0; i < len(seen); i++ {
		for _, p := range acts {
			if p[0] == seen[i] && !slices.Contains(seen, p[1]) {
				seen = append(seen, p[1])
			}
		}
	}
	return slices.Contains(seen, b)
}

// smallLabels: all labels of at most two policies, none with its Owner among its Readers.
func smallLabels(chiefs []string) []api.Label {
	var l api.Label
	for _, o := range chiefs {
		for m := 0; m < 1<<len(chiefs); m++ {
			if p := policy(chiefs, o, m); !slices.Contains(p.Readers, o) {
				l = append(l, p)
			}
		}
	}
	out := []api.Label{nil}
	for i, p := range l {
		out = append(out, api.Label{p})
		for _, q := range l[:i] {
			out = append(out, api.Label{p, q})
		}
	}
	return out
}

// policy of an Owner and of the chiefs in the set m.
func policy(chiefs []string, owner string, m int) api.Policy {
	p := api.Policy{Owner: owner}
	for i, c := range chiefs {
		if m>>i&1 == 1 {
			p.Readers = append(p.Readers, c)
		}
	}
	return p
}

func numbers(state uint32) func(n int) int {
	return func(n int) int {
		state = state*1664525 + 1013904223
		return int(state>>16) % n
	}
}

func someActs(chiefs []string, next func(int) int, n int) (acts [][2]string) {
	for range n {
		acts = append(acts, [2]string{chiefs[next(len(chiefs))], chiefs[next(len(chiefs))]})
	}
	return acts
}

func someNames(chiefs []string, next func(int) int) (l []string) {
	for range next(4) {
		l = append(l, chiefs[next(len(chiefs))])
	}
	return l
}

func someLabel(chiefs []string, next func(int) int) (l api.Label) {
	n := next(5)
	if n == 4 {
		n = next(40)
	}
	for range n {
		l = append(l, api.Policy{Owner: chiefs[next(len(chiefs))], Readers: someNames(chiefs, next)})
	}
	return l
}

// lab: the label of a text such as a:b,c;b:
func lab(s string) (l api.Label) {
	if s == "" {
		return nil
	}
	for _, t := range strings.Split(s, ";") {
		owner, readers, _ := strings.Cut(t, ":")
		p := api.Policy{Owner: strings.Clone(owner)}
		if readers != "" {
			p.Readers = names(strings.ReplaceAll(readers, ",", " "))
		}
		l = append(l, p)
	}
	return l
}

// show: the text of which lab makes l.
func show(l api.Label) string {
	var out []string
	for _, p := range l {
		out = append(out, p.Owner+":"+strings.Join(p.Readers, ","))
	}
	return strings.Join(out, ";")
}

func many(s string, n int) (l api.Label) {
	for range n {
		l = append(l, lab(s)...)
	}
	return l
}

func names(s string) []string {
	var out []string
	for _, n := range strings.Fields(s) {
		out = append(out, strings.Clone(n))
	}
	return out
}

func pairs(l ...string) [][2]string {
	var out [][2]string
	for _, s := range l {
		a, b, _ := strings.Cut(s, " ")
		out = append(out, [2]string{a, b})
	}
	return out
}
