package flow

import (
	"slices"
	"strings"

	"cloister/api"
	"cloister/label"
)

// sum is some labels, by their numbers, rising, each once: from 0 on those
// that are looked for; below 0 those that are told.
type sum []int

// told has the labels that are told, as they stand: that of the number -1, of
// -2, ..
type told struct {
	labels  []api.Label
	numbers map[string]int // by how they are printed
}

// goal is where something goes: a label that is looked for, or (number -1)
// one that is told, as it stands.
type goal struct {
	number int
	told   api.Label
}

// variable is one that is there.
type variable struct {
	goal
	name string
	says sum
}

// join answers all of both.
func join(a, b sum) sum {
	return rising(slices.Concat(a, b))
}

// rising answers the numbers of s, which is spent, as they are in a sum.
func rising(s sum) sum {
	slices.Sort(s)
	return slices.Compact(s)
}

// of answers the sum of a label that is told. It has one number wherever it
// stands, so that sums stay short.
func (w *walker) of(l api.Label) sum {
	// Of a program that scope takes each label can be printed, and joined.
	key, _ := label.Print(l)
	number, ok := w.told.numbers[key]
	if !ok {
		w.told.labels = append(w.told.labels, l)
		number = -len(w.told.labels)
		w.told.numbers[key] = number
	}
	return sum{number}
}

// parts answers what of s is looked for, and what is told, in memory of their
// own.
func (w *walker) parts(s sum) (from []int, l api.Label) {
	for _, number := range s {
		if number >= 0 {
			from = append(from, number)
			continue
		}
		l, _ = label.Join(w.p.Chiefs, w.p.Acts, l, w.told.labels[-1-number])
	}
	return from, l
}

// into answers l, a label that is told, as a goal.
func into(l api.Label) goal {
	return goal{number: -1, told: l}
}

// copied answers l in memory of its own.
func copied(l api.Label) api.Label {
	var out api.Label
	for _, p := range l {
		out = append(out, api.Policy{Owner: strings.Clone(p.Owner), Readers: names(p.Readers)})
	}
	return out
}

// names answers l in memory of its own.
func names(l []string) []string {
	var out []string
	for _, name := range l {
		out = append(out, strings.Clone(name))
	}
	return out
}
