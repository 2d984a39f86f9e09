package scope

import "cloister/api"

// found is what is known of a name.
type found struct {
	there bool
	kind  int // its type
}

// asked has what was found of names.
type asked map[string]found

// block is one that is looked at.
type block struct {
	first int   // its own variables are those from there on
	asked asked // what it found of others, and of those that weren't there
}

// place is where a list lies. One list may lie in many blocks; what is right
// in one of them is right in all where the same is found of the names that it
// asks for, and need not be looked at again.
type place struct {
	first *api.Stmt
	n     int
}

// find answers what is known of the variable of that name.
func (k *looker) find(name string) found {
	i := len(k.vars) - 1
	for i >= 0 && k.vars[i].Name != name {
		i--
	}
	var v found
	if i >= 0 {
		v = found{there: true, kind: k.vars[i].Type}
	}
	if i < k.block.first {
		k.block.asked[name] = v
	}
	return v
}

// finds: is of all these names found what was found before?
func (k *looker) finds(l asked) bool {
	for name, v := range l {
		if k.find(name) != v {
			return false
		}
	}
	return true
}

// within looks at the statements l of a block: what they make is there to its
// end.
func (k *looker) within(l []api.Stmt) {
	if len(l) == 0 {
		return
	}
	at := place{first: &l[0], n: len(l)}
	for _, before := range k.right[at] {
		if k.finds(before) {
			return
		}
	}
	outer := k.block
	k.block = block{first: len(k.vars), asked: asked{}}
	for i := range l {
		k.stmt(&l[i], api.None)
	}
	inner := k.block
	k.vars, k.block = k.vars[:inner.first], outer
	k.right[at] = append(k.right[at], inner.asked)
	// What the inner one asked of others the outer one has asked, too.
	k.finds(inner.asked)
}
