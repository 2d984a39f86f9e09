package run

import (
	"strings"

	"cloister/api"
)

// copiedLabel answers l in memory of its own.
func copiedLabel(l api.Label) api.Label {
	var out api.Label
	for _, p := range l {
		out = append(out, api.Policy{Owner: strings.Clone(p.Owner), Readers: copiedNames(p.Readers)})
	}
	return out
}

// copiedNames answers l in memory of its own.
func copiedNames(l []string) []string {
	var out []string
	for _, name := range l {
		out = append(out, strings.Clone(name))
	}
	return out
}
