package check

import (
	"strings"

	"cloister/api"
)

// each answers what is made of those of l, one by one, in memory of its own.
func each[T any](l []T, made func(T) T) []T {
	var out []T
	for _, x := range l {
		out = append(out, made(x))
	}
	return out
}

// copyNames answers l in memory of its own.
func copyNames(l []string) []string {
	return each(l, strings.Clone)
}

// copyPair answers p in memory of its own.
func copyPair(p [2]string) [2]string {
	return [2]string{strings.Clone(p[0]), strings.Clone(p[1])}
}

// copyLabel answers l in memory of its own.
func copyLabel(l api.Label) api.Label {
	return each(l, func(p api.Policy) api.Policy {
		return api.Policy{Owner: strings.Clone(p.Owner), Readers: copyNames(p.Readers)}
	})
}

// copyChan answers c in memory of its own.
func copyChan(c api.Chan) api.Chan {
	c.Name, c.L = strings.Clone(c.Name), copyLabel(c.L)
	return c
}

// copyParam answers p in memory of its own.
func copyParam(p api.Param) api.Param {
	p.Name, p.L = strings.Clone(p.Name), copyLabel(p.L)
	return p
}
