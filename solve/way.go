package solve

import (
	"slices"

	"cloister/api"
)

// way is a bound, as sets, so that it can be gone along many times.
type way struct {
	from []int
	told set
	to   int
	into set
	free group // whose policies are left out
}

// ways answers the bounds l, which have passed check.
func (c *court) ways(l []api.Bound) []way {
	var out []way
	for _, b := range l {
		// A number may stand in From as often as there are numbers.
		from := slices.Compact(slices.Sorted(slices.Values(b.From)))
		out = append(out, way{from: from, told: c.set(b.L), to: b.To, into: c.set(b.Into), free: c.under(c.group(b.For))})
	}
	return out
}

// brings answers what goes along w, where get has the labels that are looked
// for.
func (w *way) brings(get func(int) set) set {
	s := w.told
	for _, i := range w.from {
		s = s.plus(get(i))
	}
	// Whoever acts for the Owner of a policy acts for that of each one that it
	// covers: so these can be left in until now.
	return s.less(w.free)
}

// goal answers to where w goes.
func (w *way) goal(get func(int) set) set {
	if w.to == -1 {
		return w.into
	}
	return get(w.to)
}

// least answers n sets, into which all that the ways bring has gone.
func least(n int, ways []way) []set {
	found := make([]set, n)
	changed := true
	get := func(i int) set { return found[i] }
	put := func(i int, s set) {
		if s = s.plus(found[i]); s != found[i] {
			found[i], changed = s, true
		}
	}
	// The way of a policy to a label need not pass another one twice: so there
	// are no more rounds than labels, and one more, in which nothing changes.
	for changed {
		changed = false
		for i := range ways {
			if w := &ways[i]; w.to != -1 {
				put(w.to, w.brings(get))
			}
		}
	}
	return found
}
