package solve

import (
	"iter"
	"math/bits"

	"cloister/api"
)

// group is some chiefs: a bit for each, by its place.
type group uint8

// policy has its Owner's place, and its Readers without the Owner.
type policy struct {
	owner   int
	readers group
}

// set is some policies: of each chief, by its place, those that it owns, a bit
// for each, by what its Readers are as a number. Six chiefs make 64 groups: as
// many as there are bits.
type set [api.MaxChiefs]uint64

// alone answers the group of the chief at place i.
func alone(i int) group {
	return 1 << i
}

// has: is the chief at place i in g?
func (g group) has(i int) bool {
	return g&alone(i) != 0
}

// plus answers the policies of both.
func (s set) plus(t set) set {
	for i := range s {
		s[i] |= t[i]
	}
	return s
}

// less answers the policies that none of the owners owns.
func (s set) less(owners group) set {
	for i := range s {
		if owners.has(i) {
			s[i] = 0
		}
	}
	return s
}

// policies goes through those of s.
func (s set) policies() iter.Seq[policy] {
	return func(yield func(policy) bool) {
		for owner, owned := range s {
			for ; owned != 0; owned &= owned - 1 {
				if !yield(policy{owner: owner, readers: group(bits.TrailingZeros64(owned))}) {
					return
				}
			}
		}
	}
}
