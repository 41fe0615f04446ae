package graph

import (
	"cmp"
	"slices"
)

// Order returns all nodes such that each edge leads from an earlier to a later one, if there is such an order.
func (g *Graph) Order() ([]int, bool) {
	if g == nil {
		return nil, false
	}
	waiting := make([]int, g.Nodes()) // for each node, how many edges lead to it from nodes that are left
	var ready, order []int
	for n, nodes := range g.before {
		waiting[n] = len(nodes)
		if len(nodes) == 0 {
			ready = append(ready, n)
		}
	}
	for len(ready) > 0 {
		first := ready[0]
		ready = ready[1:]
		order = append(order, first)
		for _, n := range g.after[first] {
			waiting[n]--
			if waiting[n] == 0 {
				ready = inserted(ready, n)
			}
		}
	}
	if len(order) < g.Nodes() {
		return nil, false
	}
	return order, true
}

// inserted returns a list that is in order with a further number; it may change the list.
func inserted(l []int, n int) []int {
	at, _ := slices.BinarySearch(l, n)
	return slices.Insert(l, at, n)
}

// Components returns the strongly connected components.
//
// From the node that the visits leave last, all nodes are reached from which it is reached itself: otherwise one of these would have been left later. So the way back from it passes its component and no more; without this component, the same holds for the rest.
func (g *Graph) Components() [][]int {
	if g == nil {
		return nil
	}
	var left, group []int
	visit := visitor(g.after, func(n int) { left = append(left, n) })
	for n := range g.after {
		visit(n)
	}
	var groups [][]int
	collect := visitor(g.before, func(n int) { group = append(group, n) })
	for _, n := range slices.Backward(left) {
		group = nil
		collect(n)
		if len(group) > 0 {
			slices.Sort(group)
			groups = append(groups, group)
		}
	}
	slices.SortFunc(groups, func(a, b []int) int { return cmp.Compare(a[0], b[0]) })
	return groups
}
