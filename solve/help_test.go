package solve

import (
	"fmt"
	"slices"
	"strconv"
	"strings"
	"testing"

	"cloister/api"
	"cloister/label"
	"cloister/parse"
)

// bounds: what is written as `1 {a:b} > 0 | 0 > {b:} for a, b`: what goes, > to where, with whose authority.
func bounds(t *testing.T, s string) []api.Bound {
	t.Helper()
	var l []api.Bound
	for one := range strings.SplitSeq(s, "|") {
		if one = strings.TrimSpace(one); one != "" {
			l = append(l, bound(t, one))
		}
	}
	return l
}

func bound(t *testing.T, s string) api.Bound {
	t.Helper()
	what, where, ok := strings.Cut(s, ">")
	if !ok {
		t.Fatalf("%q is no bound", s)
	}
	where, by, _ := strings.Cut(where, "for")
	b := api.Bound{To: -1, For: names(strings.ReplaceAll(by, ",", " "))}
	for _, word := range strings.Fields(what) {
		if n, err := strconv.Atoi(word); err == nil {
			b.From = append(b.From, n)
		} else {
			b.L = lab(t, word)
		}
	}
	for _, word := range strings.Fields(where) {
		if n, err := strconv.Atoi(word); err == nil {
			b.To = n
		} else {
			b.Into = lab(t, word)
		}
	}
	return b
}

func lab(t *testing.T, s string) api.Label {
	t.Helper()
	l, f := parse.Label(s)
	if f.Code != api.OK {
		t.Fatalf("%q: %v", s, f)
	}
	return l
}

// labs: the labels of `{a:} {b:}`.
func labs(t *testing.T, s string) []api.Label {
	t.Helper()
	var l []api.Label
	for _, one := range strings.Fields(s) {
		l = append(l, lab(t, one))
	}
	return l
}

func text(l []api.Label) string {
	var out []string
	for _, one := range l {
		s, _ := label.Print(one)
		out = append(out, s)
	}
	return strings.Join(out, " ")
}

func names(s string) []string {
	var out []string
	for _, name := range strings.Fields(s) {
		out = append(out, strings.Clone(name))
	}
	return out
}

// pairs: the pairs of `a b, c d`.
func pairs(s string) [][2]string {
	var out [][2]string
	for one := range strings.SplitSeq(s, ",") {
		if l := names(one); len(l) == 2 {
			out = append(out, [2]string{l[0], l[1]})
		}
	}
	return out
}

// world is chiefs, and who acts for whom; it says of bounds what the chapter does, by the calls of chapter 3 that it names.
type world struct {
	chiefs []string
	acts   [][2]string
}

func (w world) String() string { return fmt.Sprint(w.chiefs, w.acts) }

// must: chapter 3 tells no error.
func must[T any](x T, code api.Errno) T {
	if code != api.OK {
		panic(fmt.Sprint("chapter 3 tells ", code))
	}
	return x
}

func (w world) brings(b api.Bound, have []api.Label) api.Label {
	l := b.L
	for _, i := range b.From {
		l = must(label.Join(w.chiefs, w.acts, l, have[i]))
	}
	return must(label.Less(w.chiefs, w.acts, l, b.For))
}

func (w world) holds(b api.Bound, have []api.Label) bool {
	to := b.Into
	if b.To != -1 {
		to = have[b.To]
	}
	return w.flows(w.brings(b, have), to)
}

func (w world) flows(a, b api.Label) bool { return must(label.Flows(w.chiefs, w.acts, a, b)) }

// allFlow: may each of a go to where the one of b is?
func (w world) allFlow(a, b []api.Label) bool {
	for i := range a {
		if !w.flows(a[i], b[i]) {
			return false
		}
	}
	return true
}

// hold: do the labels hold all bounds that go into one of them?
func (w world) hold(l []api.Bound, have []api.Label) bool {
	return !slices.ContainsFunc(l, func(b api.Bound) bool { return b.To != -1 && !w.holds(b, have) })
}

// grow adds to labels what bounds bring, one at a time, until they hold.
func (w world) grow(l []api.Bound, have []api.Label) []api.Label {
	have = slices.Clone(have)
	for !w.hold(l, have) {
		for _, b := range l {
			if b.To != -1 {
				have[b.To] = must(label.Join(w.chiefs, w.acts, have[b.To], w.brings(b, have)))
			}
		}
	}
	return have
}

// broken answers what Broken should.
func (w world) broken(l []api.Bound, have []api.Label) []int {
	var out []int
	for i, b := range l {
		if !w.holds(b, have) {
			out = append(out, i)
		}
	}
	return out
}

// normal: is each of them Normal?
func (w world) normal(l []api.Label) bool {
	for _, one := range l {
		if text([]api.Label{must(label.Normal(w.chiefs, w.acts, one))}) != text([]api.Label{one}) {
			return false
		}
	}
	return true
}

// thrower answers numbers that look as if by chance, the same ones each time.
type thrower struct{ state uint64 }

func dice(seed int) *thrower { return &thrower{uint64(seed)*2654435761 + 1} }

func (d *thrower) roll(n int) int {
	d.state = d.state*6364136223846793005 + 1442695040888963407
	return int((d.state >> 33) % uint64(n))
}

func (d *thrower) world(most int) world {
	w := world{chiefs: names("e b f a d c")[:1+d.roll(most)]}
	for range d.roll(api.MaxActs + 1) {
		w.acts = append(w.acts, [2]string{d.who(w), d.who(w)})
	}
	if d.roll(3) == 0 {
		w.acts = nil
	}
	return w
}

func (d *thrower) who(w world) string { return w.chiefs[d.roll(len(w.chiefs))] }

func (d *thrower) some(w world, below int) []string {
	var l []string
	for range d.roll(below) {
		l = append(l, d.who(w))
	}
	return l
}

func (d *thrower) label(w world, below int) api.Label {
	var l api.Label
	for range d.roll(below) {
		l = append(l, api.Policy{Owner: d.who(w), Readers: d.some(w, 4)})
	}
	return l
}

func (d *thrower) labels(w world, n, below int) []api.Label {
	var l []api.Label
	for range n {
		l = append(l, d.label(w, below))
	}
	return l
}

func (d *thrower) bound(w world, n int) api.Bound {
	b := api.Bound{L: d.label(w, 2), To: d.roll(n+1) - 1, At: d.roll(9)}
	for range d.roll(4) {
		if n > 0 {
			b.From = append(b.From, d.roll(n))
		}
	}
	// What stands in Into beside a number says nothing.
	if b.To == -1 || d.roll(3) == 0 {
		b.Into = d.label(w, 4)
	}
	if d.roll(3) == 0 {
		b.For = d.some(w, 3)
	}
	return b
}

func (d *thrower) bounds(w world, n, below int) []api.Bound {
	var l []api.Bound
	for range d.roll(below) {
		l = append(l, d.bound(w, n))
	}
	return l
}

// every answers all labels of policies of the chiefs, none with its Owner among its Readers.
func every(chiefs []string) []api.Label {
	out := []api.Label{nil}
	for _, p := range policies(chiefs) {
		for _, l := range out {
			out = append(out, append(slices.Clone(l), p))
		}
	}
	return out
}

// policies answers all of the chiefs, none with its Owner among its Readers.
func policies(chiefs []string) api.Label {
	var out api.Label
	for _, owner := range chiefs {
		lists := [][]string{nil}
		for _, c := range chiefs {
			if c == owner {
				continue
			}
			for _, l := range lists {
				lists = append(lists, append(slices.Clone(l), c))
			}
		}
		for _, readers := range lists {
			out = append(out, api.Policy{Owner: owner, Readers: readers})
		}
	}
	return out
}
