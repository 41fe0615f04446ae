package graph

import "slices"

// Reach returns all nodes to which paths lead from given nodes, and Between those on paths from one of some nodes to one of others.
func (g *Graph) Reach(from []int) []int {
	if g == nil {
		return nil
	}
	return reached(g.after, from)
}

func (g *Graph) Between(from, to []int) []int {
	if g == nil {
		return nil
	}
	leading := reached(g.before, to)
	return slices.DeleteFunc(reached(g.after, from), func(n int) bool {
		_, is := slices.BinarySearch(leading, n)
		return !is
	})
}

// reached returns, in order, the nodes that are reached over the neighbours of each node.
func reached(next [][]int, from []int) []int {
	var l []int
	visit := visitor(next, func(n int) { l = append(l, n) })
	for _, n := range from {
		visit(n)
	}
	slices.Sort(l)
	return l
}

// visitor returns a function that visits all nodes which are reached from a node, but those that it has visited before. It tells of each node when it leaves it, behind the nodes that it has visited from there.
func visitor(next [][]int, leave func(n int)) func(n int) {
	seen := make([]bool, len(next))
	var visit func(n int)
	visit = func(n int) {
		if n < 0 || n >= len(next) || seen[n] {
			return
		}
		seen[n] = true
		for _, neighbour := range next[n] {
			visit(neighbour)
		}
		leave(n)
	}
	return visit
}

// Path returns a shortest path between two nodes.
func (g *Graph) Path(from, to int) ([]int, bool) {
	if !g.isNode(from) || !g.isNode(to) {
		return nil, false
	}
	steps := g.stepsTo(to)
	if steps[from] < 0 {
		return nil, false
	}
	path := []int{from}
	for left := steps[from] - 1; left >= 0; left-- {
		neighbours := g.after[path[len(path)-1]]
		next := slices.IndexFunc(neighbours, func(n int) bool { return steps[n] == left })
		path = append(path, neighbours[next])
	}
	return path, true
}

// stepsTo returns the number of edges of the shortest path from each node to a node, or -1 where there is no path.
func (g *Graph) stepsTo(n int) []int {
	steps := slices.Repeat([]int{-1}, g.Nodes())
	steps[n] = 0
	queue := []int{n}
	for len(queue) > 0 {
		at := queue[0]
		queue = queue[1:]
		for _, neighbour := range g.before[at] {
			if steps[neighbour] < 0 {
				steps[neighbour] = steps[at] + 1
				queue = append(queue, neighbour)
			}
		}
	}
	return steps
}
