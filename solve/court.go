package solve

import (
	"slices"

	"cloister/api"
	"cloister/chief"
)

// court has the chiefs, and of each, by its place, all that act for it.
type court struct {
	chiefs []string
	acting [api.MaxChiefs]group
}

// gather answers the court of chiefs and acts, which have passed check.
func gather(chiefs []string, acts [][2]string) *court {
	c := &court{chiefs: chiefs}
	for i, b := range chiefs {
		// No error is left that For could tell.
		l, _ := chief.For(chiefs, acts, b)
		c.acting[i] = c.group(l)
	}
	return c
}

// group answers the chiefs of these names.
func (c *court) group(names []string) group {
	var g group
	for _, name := range names {
		g |= alone(slices.Index(c.chiefs, name))
	}
	return g
}

// under answers all for whom one of by acts.
func (c *court) under(by group) group {
	var g group
	for i, acting := range c.acting {
		if acting&by != 0 {
			g |= alone(i)
		}
	}
	return g
}

// set answers the policies of l, all of whose names are chiefs.
func (c *court) set(l api.Label) set {
	var s set
	for _, p := range l {
		owner := slices.Index(c.chiefs, p.Owner)
		// An Owner reads anyhow. Without it there are fewer policies than a
		// label may have.
		readers := c.group(p.Readers) &^ alone(owner)
		s[owner] |= 1 << readers
	}
	return s
}

// label answers the policies of s.
func (c *court) label(s set) api.Label {
	var l api.Label
	for p := range s.policies() {
		l = append(l, api.Policy{Owner: c.chiefs[p.owner], Readers: c.names(p.readers)})
	}
	return l
}

// names answers those of g.
func (c *court) names(g group) []string {
	var l []string
	for i, name := range c.chiefs {
		if g.has(i) {
			l = append(l, name)
		}
	}
	return l
}

// flows: may what has a go to where b is?
func (c *court) flows(a, b set) bool {
	for p := range a.policies() {
		if !c.covered(p, b) {
			return false
		}
	}
	return true
}

// covered: does one of s cover p?
func (c *court) covered(p policy, s set) bool {
	lets := c.lets(p)
	for q := range s.policies() {
		if c.acting[p.owner].has(q.owner) && q.readers&^lets == 0 {
			return true
		}
	}
	return false
}

// lets answers whom p lets read.
func (c *court) lets(p policy) group {
	g := c.acting[p.owner]
	for i, acting := range c.acting {
		if p.readers.has(i) {
			g |= acting
		}
	}
	return g
}
