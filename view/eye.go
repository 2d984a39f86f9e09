package view

import (
	"slices"

	"cloister/api"
	"cloister/chief"
	"cloister/label"
)

// eye answers Sees for who, to be asked of one label after the other: whom who
// acts for is found once, since a run may have many events.
func eye(chiefs []string, acts [][2]string, who string) func(l api.Label) (bool, api.Errno) {
	mine := below(chiefs, acts, who)
	isMine := func(name string) bool { return slices.Contains(mine, name) }
	hides := func(p api.Policy) bool { return !isMine(p.Owner) && !slices.ContainsFunc(p.Readers, isMine) }
	return func(l api.Label) (bool, api.Errno) {
		if code := label.Check(chiefs, acts, l); code != api.OK {
			return false, code
		}
		if !slices.Contains(chiefs, who) {
			return false, api.ErrWho
		}
		return !slices.ContainsFunc(l, hides), api.OK
	}
}

// below answers all for whom who acts; nobody, where something is wrong that
// an eye tells.
func below(chiefs []string, acts [][2]string, who string) []string {
	var out []string
	for _, c := range chiefs {
		ok, code := chief.Acts(chiefs, acts, who, c)
		if code != api.OK {
			return nil
		}
		if ok {
			out = append(out, c)
		}
	}
	return out
}
