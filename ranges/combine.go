package ranges

import (
	"slices"

	"replevin/api"
)

// Union, Minus and Both return sets of positions in one of two sets, in the first one only, and in both.
func Union(a, b Set) (Set, api.Errno) {
	return limited(combined(a, b, func(inA, inB bool) bool { return inA || inB }))
}

func Minus(a, b Set) (Set, api.Errno) { return limited(minus(a, b)) }

func Both(a, b Set) (Set, api.Errno) { return limited(both(a, b)) }

// Meets reports whether two sets have a common element, and Covers whether the first one contains the second one.
func Meets(a, b Set) bool { return len(both(a, b)) > 0 }

func Covers(a, b Set) bool { return len(minus(b, a)) == 0 }

func minus(a, b Set) []Range {
	return combined(a, b, func(inA, inB bool) bool { return inA && !inB })
}

func both(a, b Set) []Range {
	return combined(a, b, func(inA, inB bool) bool { return inA && inB })
}

// combined returns the ranges, even if they are too many, of the positions that in accepts; it never accepts one that is in neither set.
func combined(a, b Set, in func(inA, inB bool) bool) []Range {
	bounds := slices.Concat(a.bounds(), b.bounds())
	slices.Sort(bounds)
	var list []Range
	for i, to := range bounds {
		if i == 0 {
			continue
		}
		// No set begins or ends between two bounds, so the first position between them stands for all.
		if from := bounds[i-1]; in(a.Has(from), b.Has(from)) {
			list = extended(list, Range{from, to})
		}
	}
	return list
}

func (s Set) bounds() []int {
	var l []int
	for _, r := range s.list {
		l = append(l, r.From, r.To)
	}
	return l
}
