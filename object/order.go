package object

import (
	"cmp"
	"slices"

	"replevin/lineage"
)

// Compare orders names by kinds, owners, numbers, indices and texts; Sort returns the different names of a list in this order.
func Compare(a, b Name) int {
	switch {
	case a.Kind != b.Kind:
		return cmp.Compare(a.Kind, b.Kind)
	case a.Owner != b.Owner:
		// Only here owners are read as names, which takes longer than comparing them as texts.
		return lineage.Compare(a.Owner, b.Owner)
	case a.Number != b.Number:
		return cmp.Compare(a.Number, b.Number)
	case a.Index != b.Index:
		return cmp.Compare(a.Index, b.Index)
	}
	return cmp.Compare(a.Text, b.Text)
}

func Sort(l []Name) []Name {
	sorted := slices.Clone(l)
	slices.SortFunc(sorted, Compare)
	return slices.Compact(sorted)
}
