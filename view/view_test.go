package view

import (
	"math"
	"reflect"
	"slices"
	"strings"
	"testing"
	"unsafe"

	"cloister/api"
	"cloister/label"
	"cloister/parse"
	"cloister/run"
)

// P11.1

func TestSees(t *testing.T) {
	for _, c := range []struct {
		acts, label string
		who         string // of a b c d those who read
	}{
		{"", "{}", "a b c d"},
		{"", "{a:}", "a"},
		{"", "{a:a}", "a"},
		{"", "{a:b}", "a b"},
		{"", "{a:b,c}", "a b c"},
		{"", "{a:b,b,b,c,c,c}", "a b c"},
		{"", "{a:b;b:}", "b"},
		{"", "{b:;a:b}", "b"},
		{"", "{a:;b:}", ""},
		{"", "{a:;a:b}", "a"},
		{"", "{a:b,c;b:c;c:b,a}", "b c"},
		{"", "{a:d;b:d;c:d}", "d"},
		{"d a", "{a:}", "a d"},
		{"a d", "{a:}", "a"},
		{"d b", "{a:b}", "a b d"},
		{"d a, d b", "{a:b;b:}", "b d"},
		{"d a, d b", "{a:;b:}", "d"},
		{"d a", "{a:;b:}", ""},
		{"d c, c b, b a", "{a:}", "a b c d"},
		{"b a, c b, d c", "{b:}", "b c d"},
		{"d c, c b, b a", "{d:}", "d"},
		{"d c, c b", "{a:b}", "a b c d"},
		{"a b, b c, c a", "{a:;b:;c:}", "a b c"},
		{"a a, a a", "{a:}", "a"},
	} {
		for _, who := range names("a b c d") {
			want := slices.Contains(names(c.who), who)
			if ok, code := Sees(names("d b a c"), pairs(c.acts), who, lab(c.label)); ok != want || code != api.OK {
				t.Errorf("%s: %s by %s: %v, %d", c.acts, c.label, who, ok, code)
			}
		}
	}
}

// wrongs are chiefs, pairs and labels of which chapter 3's Check tells an error, and lets nobody read.
var wrongs = []struct {
	what, chiefs, acts string
	l                  api.Label
	want               api.Errno
}{
	{"too many chiefs", "a b c d e f g", "", nil, api.ErrMany},
	{"too many pairs", "a b", strings.Repeat("a b,", api.MaxActs+1), nil, api.ErrMany},
	{"a chief that is no Name", "a if", "", nil, api.ErrForm},
	{"a chief twice", "a b a", "", nil, api.ErrTwice},
	{"a pair of no chief", "a b", "a z", nil, api.ErrWho},
	{"a wrong chief and a wrong label", "a a", "", lab("{z:}"), api.ErrTwice},
	{"too many policies", "a b", "", slices.Repeat(lab("{a:}"), api.MaxPolicies+1), api.ErrMany},
	{"too many Readers", "a b", "", lab("{a:b,b,b,b,b,b,b}"), api.ErrMany},
	{"Owner is no chief", "a b", "", lab("{z:}"), api.ErrWho},
	{"Owner has no name", "a b", "", api.Label{{}}, api.ErrWho},
	{"a Reader is no chief", "a b", "", lab("{a:b,z}"), api.ErrWho},
	{"the last policy", "a b", "", lab("{a:;b:;a:a,a,a,a,a,a,a}"), api.ErrMany},
	{"who first, then Readers", "a b", "", lab("{z:;a:a,a,a,a,a,a,a}"), api.ErrWho},
}

func TestSeesErrors(t *testing.T) {
	for _, c := range wrongs {
		for _, who := range []string{"a", "b", "z", ""} {
			if ok, code := Sees(names(c.chiefs), pairs(c.acts), who, c.l); ok || code != c.want {
				t.Errorf("%s, %s: %v, %d, want %d", c.what, who, ok, code, c.want)
			}
		}
	}
	for _, who := range []string{"", "z", "A", "ab", "a ", "if", "\xff", strings.Repeat("a", 100000)} {
		for _, l := range []string{"{}", "{a:}", "{a:b;b:a}"} {
			if ok, code := Sees(names("a b"), pairs("a b"), who, lab(l)); ok || code != api.ErrWho {
				t.Errorf("%.10q of %s: %v, %d", who, l, ok, code)
			}
		}
	}
	for _, who := range []string{"", "a"} {
		if ok, code := Sees(nil, nil, who, nil); ok || code != api.ErrWho {
			t.Errorf("%q of nobody: %v, %d", who, ok, code)
		}
	}
	if ok, code := Sees(make([]string, 100000), make([][2]string, 100000), "a", make(api.Label, 100000)); ok || code != api.ErrMany {
		t.Errorf("far too many: %v, %d", ok, code)
	}
	if ok, code := Sees(names("a b"), nil, "b", slices.Repeat(lab("{a:b,b,b,b,b,b}"), api.MaxPolicies)); !ok || code != api.OK {
		t.Errorf("as many as may be: %v, %d", ok, code)
	}
}

// TestSeesAll: three chiefs, however they act for one another, and all labels of at most two policies.
func TestSeesAll(t *testing.T) {
	chiefs := names("a b c")
	all := pairs("a b, a c, b a, b c, c a, c b")
	var policies []string
	for _, o := range chiefs {
		for _, r := range []string{"", "a", "b", "c", "a,b", "b,c", "c,a", "a,b,c"} {
			policies = append(policies, o+":"+r)
		}
	}
	labels := []api.Label{nil}
	for i, p := range policies {
		labels = append(labels, lab(p))
		for _, q := range policies[:i] {
			labels = append(labels, lab(p+";"+q))
		}
	}
	for m := range 1 << len(all) {
		var acts [][2]string
		for i, p := range all {
			if m>>i&1 == 1 {
				acts = append(acts, p)
			}
		}
		for _, l := range labels {
			for _, who := range chiefs {
				if ok, code := Sees(chiefs, acts, who, l); ok != reads(acts, who, l) || code != api.OK {
					t.Fatalf("%s: %v by %s: %v, %d", acts, l, who, ok, code)
				}
			}
		}
	}
}

// TestSeesReads: who sees is whom chapter 3's Reads tells.
func TestSeesReads(t *testing.T) {
	chiefs := names("f b d a c e")
	seen := 0
	for i := range 5000 {
		d := throw(i)
		acts, l := d.acts(chiefs), d.label(chiefs)
		want, _ := label.Reads(chiefs, acts, l)
		for _, who := range chiefs {
			ok, code := Sees(chiefs, acts, who, l)
			if ok != slices.Contains(want, who) || ok != reads(acts, who, l) || code != api.OK {
				t.Fatalf("%s: %v by %s: %v, %d", acts, l, who, ok, code)
			}
			if ok && len(l) > 0 {
				seen++
			}
		}
	}
	if seen < 1000 || seen > 25000 {
		t.Errorf("%d are seen", seen)
	}
}

func TestSeen(t *testing.T) {
	for _, c := range []struct{ acts, who, events, want string }{
		{"", "a", "", ""},
		{"", "a", "o 1", "o 1"},
		{"", "a", "o 1 {a:}", "o 1"},
		{"", "b", "o 1 {a:}", ""},
		{"", "b", "o 1 {a:}, o 2 {b:}, ! 3 {a:b}, ! 4 {a:}, p 5 {b:;a:b}, p 6 {b:;a:}", "o 2, ! 3, p 5"},
		{"b a", "b", "o 1 {a:}, o 2 {b:}, ! 3 {a:b}, ! 4 {a:}, p 5 {b:;a:b}, p 6 {b:;a:}", "o 1, o 2, ! 3, ! 4, p 5, p 6"},
		{"b a", "a", "o 1 {a:}, o 2 {b:}, ! 3 {a:b}, ! 4 {a:}, p 5 {b:;a:b}, p 6 {b:;a:}", "o 1, ! 3, ! 4"},
		{"c b, b a", "c", "o 1 {a:}, o 2 {c:}, o 3 {b:;a:}", "o 1, o 2, o 3"},
		{"", "c", "p 2, o 1, p 2, o 1, ! 0, ! 0, o 1 {a:}", "p 2, o 1, p 2, o 1, ! 0, ! 0"},
		{"", "c", "! -9 {c:}, o 9223372036854775807 {a:c}, o -9223372036854775808 {b:c}", "! -9, o 9223372036854775807, o -9223372036854775808"},
	} {
		out, code := Seen(names("c a b"), pairs(c.acts), c.who, events(c.events))
		if told(out) != c.want || code != api.OK {
			t.Errorf("%s: %s by %s: %s, %d, want %s", c.acts, c.events, c.who, told(out), code, c.want)
		}
	}
	// Whatever a channel is called, and an empty label that is there is left out as well.
	odd := []api.Event{{Chan: " ", N: 1, L: api.Label{}}, {Chan: "if", N: 2}, {Chan: "\xff\x00", N: 3}}
	if out, code := Seen(names("a"), nil, "a", odd); len(out) != 3 || code != api.OK || out[0].L != nil || out[0].Chan != " " || out[1].Chan != "if" || out[2].Chan != "\xff\x00" {
		t.Errorf("odd channels: %v, %d", out, code)
	}
}

func TestSeenErrors(t *testing.T) {
	sees := events("o 1, o 2 {a:}, ! 3 {b:}")
	for _, c := range wrongs {
		for _, l := range [][]api.Event{{{L: c.l}}, slices.Concat(sees, []api.Event{{Chan: "o", L: c.l}}, sees)} {
			if out, code := Seen(names(c.chiefs), pairs(c.acts), "a", l); out != nil || code != c.want {
				t.Errorf("%s: %v, %d, want %d", c.what, out, code, c.want)
			}
		}
		_, empty := Sees(names(c.chiefs), pairs(c.acts), "a", nil)
		if out, code := Seen(names(c.chiefs), pairs(c.acts), "a", nil); len(out) > 0 || code != empty {
			t.Errorf("%s, no events: %v, %d, want %d", c.what, out, code, empty)
		}
	}
	tooMany, nobody := slices.Repeat(lab("{a:}"), api.MaxPolicies+1), lab("{z:}")
	for _, c := range []struct {
		what   string
		chiefs string
		who    string
		l      []api.Event
		want   api.Errno
	}{
		{"who is none, and nothing happens", "a b", "z", nil, api.ErrWho},
		{"who has no name", "a b", "", sees, api.ErrWho},
		{"nobody is there", "", "a", nil, api.ErrWho},
		{"who ahead of labels", "a b", "z", []api.Event{{L: tooMany}}, api.ErrWho},
		{"chiefs ahead of who", "a a", "z", []api.Event{{L: tooMany}}, api.ErrTwice},
		{"the first event's", "a b", "a", []api.Event{{L: nobody}, {L: tooMany}}, api.ErrWho},
		{"the first event's, the other way", "a b", "a", []api.Event{{L: tooMany}, {L: nobody}}, api.ErrMany},
		{"as many as may be", "a b", "a", make([]api.Event, api.MaxSteps), api.OK},
		{"one more", "a b", "a", make([]api.Event, api.MaxSteps+1), api.ErrMany},
		{"one more, ahead of chiefs", "a a", "a", make([]api.Event, api.MaxSteps+1), api.ErrMany},
		{"one more, ahead of who", "a b", "z", make([]api.Event, api.MaxSteps+1), api.ErrMany},
		{"one more, ahead of labels", "a b", "a", slices.Repeat([]api.Event{{L: nobody}}, api.MaxSteps+1), api.ErrMany},
		{"the last of as many as may be", "a b", "a", append(make([]api.Event, api.MaxSteps-1), api.Event{L: nobody}), api.ErrWho},
	} {
		out, code := Seen(names(c.chiefs), nil, c.who, c.l)
		if code != c.want || code != api.OK && out != nil || code == api.OK && len(out) != len(c.l) {
			t.Errorf("%s: %d events, %d, want %d", c.what, len(out), code, c.want)
		}
	}
}

// TestSeenMade: event by event as Sees tells it.
func TestSeenMade(t *testing.T) {
	chiefs := names("b f a d c e")
	for i := range 500 {
		d := throw(i)
		acts, l := d.acts(chiefs), d.events(chiefs, d.roll(40))
		for _, who := range chiefs {
			var want []api.Event
			for _, e := range l {
				if reads(acts, who, e.L) {
					want = append(want, api.Event{Chan: e.Chan, N: e.N})
				}
			}
			if out, code := Seen(chiefs, acts, who, l); told(out) != told(want) || code != api.OK {
				t.Fatalf("%d: %s: %s, %d, want %s", i, who, told(out), code, told(want))
			}
		}
	}
}

// TestSeenMost: as many events as may be, with as much in their labels as may be.
func TestSeenMost(t *testing.T) {
	l := slices.Repeat([]api.Event{{Chan: "o", L: slices.Repeat(lab("{a:b,c,d,e,b,c}"), api.MaxPolicies)}}, api.MaxSteps)
	for who, want := range map[string]int{"a": api.MaxSteps, "e": api.MaxSteps, "f": 0} {
		if out, code := Seen(names("a b c d e f"), nil, who, l); len(out) != want || code != api.OK {
			t.Errorf("%s: %d, %d", who, len(out), code)
		}
	}
}

// TestSeenRun: what is seen of a run.
func TestSeenRun(t *testing.T) {
	p, f := parse.Program("chief a; chief b; chief c; acts c a; in i: int {a:}; out o: int {a:}; out q: int {b:}; proc main() for a { var x = 1; while x != 0 { take x i; send o x; send q release(x * 2 to {a:b}); } }")
	if f.Code != api.OK {
		t.Fatal(f)
	}
	tr, f := run.Program(p, [][]int{{3, 5}, nil, nil}, api.MaxSteps)
	if f.Code != api.OK || !tr.Done {
		t.Fatal(tr, f)
	}
	for who, want := range map[string]string{
		"a": "o 3, ! 6, o 5, ! 10, o 0, ! 0",
		"b": "! 6, q 6, ! 10, q 10, ! 0, q 0",
		"c": "o 3, ! 6, o 5, ! 10, o 0, ! 0",
	} {
		if out, code := Seen(p.Chiefs, p.Acts, who, tr.Events); told(out) != want || code != api.OK {
			t.Errorf("%s: %s, %d, want %s", who, told(out), code, want)
		}
	}
}

// P11.2

func TestReleased(t *testing.T) {
	for _, c := range []struct{ events, released, others string }{
		{"", "", ""},
		{"o 1 {a:}", "", "o 1"},
		{"! 1 {a:}", "! 1", ""},
		{"! 1, o 1, ! 2 {a:}, p 3 {z:}, o 2, ! 1", "! 1, ! 2, ! 1", "o 1, p 3, o 2"},
		{"o 0, ! 0, o 0", "! 0", "o 0, o 0"},
		{"! -9223372036854775808, o 9223372036854775807", "! -9223372036854775808", "o 9223372036854775807"},
	} {
		if r, o := Released(events(c.events)); told(r) != c.released || told(o) != c.others {
			t.Errorf("%s: %s; %s", c.events, told(r), told(o))
		}
	}
	// A label that couldn't be one is left out as any, and there is no limit.
	l := slices.Repeat([]api.Event{{L: make(api.Label, 1000)}, {Chan: " ", L: api.Label{}}, {Chan: "\x00"}}, api.MaxSteps)
	r, o := Released(l)
	if len(r) != api.MaxSteps || len(o) != 2*api.MaxSteps {
		t.Fatalf("%d, %d", len(r), len(o))
	}
	labelled := func(e api.Event) bool { return e.L != nil }
	if slices.ContainsFunc(slices.Concat(r, o), labelled) || o[0].Chan != " " || o[1].Chan != "\x00" {
		t.Errorf("%v, %v", r[:3], o[:3])
	}
}

func TestBegins(t *testing.T) {
	for _, c := range []struct {
		a, b string
		want bool
	}{
		{"", "", true},
		{"", "o 1", true},
		{"o 1", "", false},
		{"o 1", "o 1", true},
		{"o 1", "o 1, o 2", true},
		{"o 1, o 2", "o 1", false},
		{"o 1, o 2", "o 1, o 2", true},
		{"o 1, o 2", "o 2, o 1", false},
		{"o 2", "o 1, o 2", false},
		{"o 1", "o 2", false},
		{"o 1", "p 1", false},
		{"o 1", "! 1", false},
		{"! 1", "o 1", false},
		{"! 1", "! 1", true},
		{"o 1, p 2, ! 3", "o 1, p 2, ! 4", false},
		{"o 1, p 2, ! 3", "o 1, p 2, ! 3, o 4", true},
		{"o 1, p 2, ! 3", "o 1, q 2, ! 3, o 4", false},
		{"o 1 {a:}", "o 1 {b:}", true},
		{"o 1 {a:}", "o 1", true},
		{"o 1, ! 2 {a:b,c}", "o 1 {c:}, ! 2, o 3", true},
		{"O 1", "o 1", false},
		{"o 1", "oo 1", false},
	} {
		if got := Begins(events(c.a), events(c.b)); got != c.want {
			t.Errorf("%s begins %s: %v", c.a, c.b, got)
		}
	}
	if !Begins(nil, []api.Event{}) || !Begins([]api.Event{}, nil) {
		t.Error("nothing doesn't begin nothing")
	}
	room := events("o 1, o 2, o 3")
	if Begins(room, room[:2]) || !Begins(room[:2], room) {
		t.Error("what lies in the spare room behind b is one of it")
	}
	long := make([]api.Event, 100000)
	if !Begins(long, long) || Begins(append(slices.Clone(long[1:]), api.Event{N: 1}), long) {
		t.Error("long ones")
	}
}

// TestBeginsAll: all lists of at most three events of two channels and two numbers, as texts of which one begins the other.
func TestBeginsAll(t *testing.T) {
	alphabet := []api.Event{{Chan: "", N: 0}, {Chan: "", N: 1}, {Chan: "o", N: 0, L: lab("{a:}")}, {Chan: "o", N: 1}}
	texts := []string{""}
	for i := 0; len(texts[i]) < 3; i++ {
		for _, c := range "0123" {
			texts = append(texts, texts[i]+string(c))
		}
	}
	read := func(s string) (out []api.Event) {
		for _, c := range s {
			out = append(out, alphabet[c-'0'])
		}
		return out
	}
	if len(texts) != 1+4+16+64 {
		t.Fatal(len(texts))
	}
	for _, a := range texts {
		for _, b := range texts {
			if got := Begins(read(a), read(b)); got != strings.HasPrefix(b, a) {
				t.Fatalf("%q begins %q: %v", a, b, got)
			}
		}
	}
}

func TestAlike(t *testing.T) {
	for _, c := range []struct {
		acts, chans, a, b string
		who               string // of a b c those to whom they are alike
	}{
		{"", "", "", "", "a b c"},
		{"", "{}", "-", "-", "a b c"},
		{"", "{}", "1,2", "1,2", "a b c"},
		{"", "{}", "1,2", "2,1", ""},
		{"", "{}", "1", "1,2", ""},
		{"", "{}", "1,2", "1", ""},
		{"", "{}", "-", "0", ""},
		{"", "{a:}", "1", "2", "b c"},
		{"", "{a:}", "1", "1,1", "b c"},
		{"", "{a:b}", "1", "2", "c"},
		{"", "{a:b;b:}", "1", "2", "a c"},
		{"", "{a:;b:}", "1", "2", "a b c"},
		{"c a, c b", "{a:;b:}", "1", "2", "a b"},
		{"c b, b a", "{a:}", "1", "2", ""},
		{"", "{a:} {b:}", "1 2", "1 3", "a c"},
		{"", "{a:} {b:}", "1 2", "4 2", "b c"},
		{"", "{a:} {b:}", "1 2", "4 3", "c"},
		{"", "{a:} {b:}", "1 2", "2 1", "c"},
		{"", "{a:} {b:} {c:}", "1 2 3", "1 2 3", "a b c"},
		{"", "{a:} {b:} {c:}", "1 2 3", "1 2 4", "a b"},
		{"", "{a:} {a:} {} {b:} {b:} {c:b}", "1 2 3 - - 4", "1 5 3 - - 4", "b c"},
		{"", "{a:} {a:} {} {b:} {b:} {c:b}", "1 2 3 - - 4", "1 2 3 - - 5", "a"},
		{"", "{} {} {} {} {} {}", "1 2 3 4 5 6", "1 2 3 4 5 6", "a b c"},
	} {
		p := api.Program{Chiefs: names("b c a"), Acts: pairs(c.acts), Chans: chans(c.chans)}
		for _, who := range p.Chiefs {
			want := slices.Contains(names(c.who), who)
			ok, code := Alike(p, who, lists(c.a), lists(c.b))
			back, other := Alike(p, who, lists(c.b), lists(c.a))
			if ok != want || code != api.OK || back != want || other != api.OK {
				t.Errorf("%s: %s: %s, %s by %s: %v, %d; %v, %d", c.acts, c.chans, c.a, c.b, who, ok, code, back, other)
			}
		}
	}
}

// TestAlikeFreely: nothing but the channels' labels is asked: neither where they go nor how long the lists are.
func TestAlikeFreely(t *testing.T) {
	p := api.Program{Chiefs: names("a"), Chans: chans("{}")}
	if ok, code := Alike(p, "a", [][]int{nil}, [][]int{{}}); !ok || code != api.OK {
		t.Errorf("lists of nothing: %v, %d", ok, code)
	}
	long := make([]int, api.MaxInputs+1)
	for _, p.Chans[0].In = range []bool{false, true} {
		if ok, code := Alike(p, "a", [][]int{long}, [][]int{long}); !ok || code != api.OK {
			t.Errorf("long lists: %v, %d", ok, code)
		}
		if ok, code := Alike(p, "a", [][]int{long}, [][]int{append(slices.Clone(long[1:]), math.MinInt)}); ok || code != api.OK {
			t.Errorf("long lists that aren't the same: %v, %d", ok, code)
		}
	}
	p.Chans = []api.Chan{{}, {}}
	if ok, code := Alike(p, "a", make([][]int, 2), make([][]int, 2)); !ok || code != api.OK {
		t.Errorf("channels without names and types: %v, %d", ok, code)
	}
}

func TestAlikeErrors(t *testing.T) {
	six, seven := strings.Repeat("{} ", api.MaxChans), strings.Repeat("{} ", api.MaxChans+1)
	for _, c := range []struct {
		what, chiefs, chans, who string
		a, b                     string
		want                     bool
		code                     api.Errno
	}{
		{"a has too few", "a b", "{} {}", "a", "1", "1 2", false, api.ErrForm},
		{"b has too few", "a b", "{} {}", "a", "1 2", "1", false, api.ErrForm},
		{"a has too many", "a b", "{} {}", "a", "1 2 3", "1 2", false, api.ErrForm},
		{"b has too many", "a b", "{} {}", "a", "1 2", "1 2 3", false, api.ErrForm},
		{"both have too few", "a b", "{} {}", "a", "1", "1", false, api.ErrForm},
		{"both have too many", "a b", "{} {}", "a", "1 2 3", "1 2 3", false, api.ErrForm},
		{"none", "a b", "{}", "a", "", "", false, api.ErrForm},
		{"some for no channel", "a b", "", "a", "1", "1", false, api.ErrForm},
		{"channels as many as may be", "a b", six, "a", "1 1 1 1 1 1", "1 1 1 1 1 1", true, api.OK},
		{"one more", "a b", seven, "a", "1 1 1 1 1 1 1", "1 1 1 1 1 1 1", false, api.ErrForm},
		{"one more, ahead of chiefs", "a a", seven, "a", "1 1 1 1 1 1 1", "1 1 1 1 1 1 1", false, api.ErrForm},
		{"lists ahead of chiefs", "a a", "{}", "a", "", "1", false, api.ErrForm},
		{"lists ahead of who", "a b", "{}", "z", "1", "", false, api.ErrForm},
		{"lists ahead of labels", "a b", "{z:}", "a", "1", "", false, api.ErrForm},
		{"chiefs ahead of lists that aren't the same", "a a", "{}", "a", "1", "2", false, api.ErrTwice},
		{"chiefs", "a if", "{}", "a", "1", "1", false, api.ErrForm},
		{"too many chiefs", "a b c d e f g", "{}", "a", "1", "1", false, api.ErrMany},
		{"who is none", "a b", "{}", "z", "1", "1", false, api.ErrWho},
		{"who has no name", "a b", "{}", "", "1", "1", false, api.ErrWho},
		{"who is none, where nobody reads", "a b", "{a:;b:}", "z", "1", "2", false, api.ErrWho},
		{"a label", "a b", "{a:z}", "a", "1", "1", false, api.ErrWho},
		{"a label ahead of who", "a b", "{a:a,a,a,a,a,a,a}", "z", "1", "1", false, api.ErrMany},
		{"who ahead of the second label", "a b", "{} {a:a,a,a,a,a,a,a}", "z", "1 1", "1 1", false, api.ErrWho},
		{"the first label", "a b", "{z:} {a:a,a,a,a,a,a,a}", "a", "1 1", "1 1", false, api.ErrWho},
		{"the first label, the other way", "a b", "{a:a,a,a,a,a,a,a} {z:}", "a", "1 1", "1 1", false, api.ErrMany},
		{"the last label", "a b", "{} {a:} {z:}", "a", "1 2 3", "1 2 3", false, api.ErrWho},
		{"a label ahead of what isn't the same", "a b", "{z:} {}", "a", "1 1", "1 2", false, api.ErrWho},
		{"a label behind what isn't the same", "a b", "{a:} {z:}", "a", "1 1", "2 1", false, api.OK},
		{"a label behind what who doesn't see", "a b", "{a:} {z:}", "b", "1 1", "2 1", false, api.ErrWho},
		{"no channel, and who is none", "a b", "", "z", "", "", true, api.OK},
		{"no channel, and wrong chiefs", "a a", "", "a", "", "", true, api.OK},
	} {
		p := api.Program{Chiefs: names(c.chiefs), Chans: chans(c.chans)}
		if ok, code := Alike(p, c.who, lists(c.a), lists(c.b)); ok != c.want || code != c.code {
			t.Errorf("%s: %v, %d, want %v, %d", c.what, ok, code, c.want, c.code)
		}
	}
}

func TestAlikeWrongs(t *testing.T) {
	for _, c := range wrongs {
		p := api.Program{Chiefs: names(c.chiefs), Acts: pairs(c.acts), Chans: []api.Chan{{Name: "i", In: true, L: c.l}}}
		for _, b := range []string{"1", "2"} {
			if ok, code := Alike(p, "a", lists("1"), lists(b)); ok || code != c.want {
				t.Errorf("%s: %v, %d, want %d", c.what, ok, code, c.want)
			}
		}
	}
	if ok, code := Alike(api.Program{Chans: make([]api.Chan, 100000)}, "a", make([][]int, 100000), make([][]int, 100000)); ok || code != api.ErrForm {
		t.Errorf("far too many: %v, %d", ok, code)
	}
}

// TestAlikeMade: programs whose channels may have a label that is wrong, as the words of the chapter say it.
func TestAlikeMade(t *testing.T) {
	met := map[any]int{}
	for i := range 20000 {
		d := throw(i)
		p := api.Program{Chiefs: names("a b c d")}
		p.Acts = d.acts(p.Chiefs)
		var a, b [][]int
		for range d.roll(api.MaxChans + 1) {
			c := api.Chan{L: d.label(p.Chiefs)}
			if d.roll(20) == 0 {
				c.L = lab("{z:}")
			}
			p.Chans = append(p.Chans, c)
			n := d.roll(3)
			a = append(a, make([]int, n))
			b = append(b, make([]int, n))
			if n > 0 && d.roll(3) == 0 {
				b[len(b)-1][n-1] = 1
			}
		}
		who := d.one(p.Chiefs)
		want, code := alike(p, who, a, b)
		if ok, other := Alike(p, who, a, b); ok != want || other != code {
			t.Fatalf("%d: %v, %d, want %v, %d", i, ok, other, want, code)
		}
		met[[2]any{want, code}]++
	}
	if len(met) != 3 || met[[2]any{true, api.OK}] < 1000 || met[[2]any{false, api.OK}] < 1000 || met[[2]any{false, api.ErrWho}] < 1000 {
		t.Errorf("%v", met)
	}
}

// alike: what comes first of the channels that tell a and b apart, and of those whose label is z's.
func alike(p api.Program, who string, a, b [][]int) (bool, api.Errno) {
	apart, wrong := len(a), len(a)
	for i := len(a) - 1; i >= 0; i-- {
		switch {
		case len(p.Chans[i].L) == 1 && p.Chans[i].L[0].Owner == "z":
			wrong = i
		case whole(a[i]) != whole(b[i]) && reads(p.Acts, who, p.Chans[i].L):
			apart = i
		}
	}
	if wrong < apart {
		return false, api.ErrWho
	}
	return apart == len(a), api.OK
}

// P2 of DOC.md

// rich answers all that is handed in, with something in each list.
func rich() (p api.Program, l, other []api.Event, a, b [][]int) {
	p = api.Program{Chiefs: names("a b c"), Acts: pairs("c a, b c"), Chans: chans("{a:b,c;b:} {} {c:a}")}
	return p, events("o 1 {a:b,c;b:}, ! 2 {}, pp 3 {c:a}, ! 4 {a:}, o 5"), events("o 1, ! 2 {a:}"), lists("1,2 3 4"), lists("1,2 3 5")
}

// TestReadOnly: what is handed in stays as it was, with its spare room.
func TestReadOnly(t *testing.T) {
	p, l, other, a, b := rich()
	for _, x := range []any{&p, &l, &other, &a, &b} {
		v := reflect.ValueOf(x).Elem()
		v.Set(roomy(v))
	}
	see := func() (s string) {
		for _, x := range []any{p, l, other, a, b} {
			s += whole(unfolded(reflect.ValueOf(x)).Interface())
		}
		return s
	}
	was := see()
	answers := func() (s string) {
		for _, who := range []string{"a", "b", "c", "z"} {
			ok, code := Sees(p.Chiefs, p.Acts, who, p.Chans[0].L)
			out, other := Seen(p.Chiefs, p.Acts, who, l)
			alike, third := Alike(p, who, a, b)
			s += whole([]any{ok, code, out, other, alike, third})
		}
		r, o := Released(l)
		return s + whole([]any{r, o, Begins(other, l), Begins(l, other)})
	}
	first := answers()
	if again := answers(); again != first {
		t.Errorf("%s, then %s", first, again)
	}
	if now := see(); now != was {
		t.Errorf("%s, was %s", now, was)
	}
}

// TestNew: what is answered shares no memory with what is handed in, and no two lists of it share any.
func TestNew(t *testing.T) {
	p, l, _, _, _ := rich()
	ours := map[unsafe.Pointer]string{}
	pieces(reflect.ValueOf([]any{p, l}), func(at unsafe.Pointer, what string) { ours[at] = what })
	seen, code := Seen(p.Chiefs, p.Acts, "b", l)
	r, o := Released(l)
	if code != api.OK || len(seen) != 5 || len(r) != 2 || len(o) != 3 {
		t.Fatal(seen, code, r, o)
	}
	met := map[unsafe.Pointer]string{}
	pieces(reflect.ValueOf([]any{seen, r, o}), func(at unsafe.Pointer, what string) {
		if old := ours[at]; old != "" {
			t.Errorf("%s is what was handed in: %s", what, old)
		}
		if old := met[at]; old != "" {
			t.Errorf("%s is that of another one: %s", what, old)
		}
		met[at] = what
	})
	// Three lists and the one around them, and the names of three channels twice.
	if len(met) != 4+6 {
		t.Errorf("%d pieces", len(met))
	}
	// What is appended to one list may not come to lie in another one.
	_ = append(r, o...)
	if told(o) != "o 1, pp 3, o 5" || told(r) != "! 2, ! 4" {
		t.Errorf("%s; %s", told(r), told(o))
	}
	was := whole(l)
	for _, out := range [][]api.Event{seen, r, o} {
		spoil(reflect.ValueOf(out))
	}
	if whole(l) != was {
		t.Error("changed by what is done to the answer")
	}
}
