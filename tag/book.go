package tag

import (
	"strings"

	"cloister/api"
	"cloister/label"
)

// mark stands for a label in a book.
type mark int

// none stands for the label without policies.
const none mark = 0

// book has the labels that are borne, each of them once, Normal. Nearly each
// step of a run asks for a Join, but few of them are new.
type book struct {
	chiefs []string
	acts   [][2]string
	labels []api.Label      // by their marks
	marks  map[string]mark  // by how labels are printed
	joins  map[[2]mark]mark // by two of which the first isn't the greater one
}

// newBook answers one for the labels of a program that scope takes: so all of
// them can be printed, and no error is left that chapter 3 could tell.
func newBook(chiefs []string, acts [][2]string) *book {
	b := &book{chiefs: chiefs, acts: acts, marks: map[string]mark{}, joins: map[[2]mark]mark{}}
	// The first one is none.
	b.markNormal(nil)
	return b
}

// mark answers that of l.
func (b *book) mark(l api.Label) mark {
	text, _ := label.Print(l)
	m, ok := b.marks[text]
	if !ok {
		normal, _ := label.Normal(b.chiefs, b.acts, l)
		m = b.markNormal(normal)
		b.marks[text] = m
	}
	return m
}

// markNormal answers the mark of l, which is Normal.
func (b *book) markNormal(l api.Label) mark {
	text, _ := label.Print(l)
	m, ok := b.marks[text]
	if !ok {
		m = mark(len(b.labels))
		b.labels = append(b.labels, l)
		b.marks[text] = m
	}
	return m
}

// join answers the mark of chapter 3's Join of both.
func (b *book) join(x, y mark) mark {
	pair := [2]mark{min(x, y), max(x, y)}
	m, ok := b.joins[pair]
	if !ok {
		l, _ := label.Join(b.chiefs, b.acts, b.labels[x], b.labels[y])
		m = b.markNormal(l)
		b.joins[pair] = m
	}
	return m
}

// label answers the one for which m stands, in memory of its own.
func (b *book) label(m mark) api.Label {
	var out api.Label
	for _, p := range b.labels[m] {
		out = append(out, api.Policy{Owner: strings.Clone(p.Owner), Readers: copied(p.Readers)})
	}
	return out
}

// copied answers l in memory of its own.
func copied(l []string) []string {
	var out []string
	for _, name := range l {
		out = append(out, strings.Clone(name))
	}
	return out
}
