package graph_test

import (
	"math/rand/v2"
	"slices"
	"testing"

	"replevin/api"
	"replevin/graph"
)

// The model of a graph tells of each pair of nodes whether there is an edge.
type model [][]bool

func emptyModel(nodes int) model {
	m := make(model, nodes)
	for i := range m {
		m[i] = make([]bool, nodes)
	}
	return m
}

func someModel(random *rand.Rand, nodes int) model {
	m := emptyModel(nodes)
	few := 1 + random.IntN(6)
	// Without edges to nodes that are not greater there is no cycle.
	acyclic := random.IntN(3) == 0
	names := random.Perm(nodes)
	for i := range nodes {
		for j := range nodes {
			if !acyclic || i < j {
				m[names[i]][names[j]] = random.IntN(few) == 0
			}
		}
	}
	return m
}

// edges returns the edges in order.
func (m model) edges() []graph.Edge {
	var l []graph.Edge
	for from := range m {
		for to := range m {
			if m[from][to] {
				l = append(l, graph.Edge{From: from, To: to})
			}
		}
	}
	return l
}

func (m model) turned() model {
	t := emptyModel(len(m))
	for from := range m {
		for to := range m {
			t[to][from] = m[from][to]
		}
	}
	return t
}

// paths tells of each pair of nodes whether a path leads from one to the other.
func (m model) paths() model {
	p := emptyModel(len(m))
	for i := range m {
		copy(p[i], m[i])
		p[i][i] = true
	}
	for k := range m {
		for i := range m {
			for j := range m {
				p[i][j] = p[i][j] || p[i][k] && p[k][j]
			}
		}
	}
	return p
}

// path tries all lists of nodes, the shorter ones first, in the order in which they are compared.
func (m model) path(from, to int) ([]int, bool) {
	var extend func(l []int, count int) []int
	extend = func(l []int, count int) []int {
		last := l[len(l)-1]
		if len(l) == count {
			if last == to {
				return l
			}
			return nil
		}
		for next, is := range m[last] {
			if is && !slices.Contains(l, next) {
				if found := extend(append(slices.Clone(l), next), count); found != nil {
					return found
				}
			}
		}
		return nil
	}
	for count := 1; count <= len(m); count++ {
		if l := extend([]int{from}, count); l != nil {
			return l, true
		}
	}
	return nil, false
}

func (m model) order() ([]int, bool) {
	left := make([]bool, len(m))
	for i := range left {
		left[i] = true
	}
	var order []int
	for range m {
		next := -1
		for n := len(m) - 1; n >= 0; n-- {
			free := left[n]
			for before := range m {
				free = free && !(left[before] && m[before][n])
			}
			if free {
				next = n
			}
		}
		if next < 0 {
			return nil, false
		}
		left[next] = false
		order = append(order, next)
	}
	return order, true
}

func (m model) components() [][]int {
	p := m.paths()
	var groups [][]int
	for i := range m {
		var group []int
		for j := range m {
			if p[i][j] && p[j][i] {
				group = append(group, j)
			}
		}
		if group[0] == i {
			groups = append(groups, group)
		}
	}
	return groups
}

// made returns the graph with nodes and edges, which may be in any order, and more than once in the list.
func made(t *testing.T, nodes int, edges ...graph.Edge) *graph.Graph {
	t.Helper()
	given := slices.Clone(edges)
	g, e := graph.New(nodes, given)
	if e != api.OK || g == nil {
		t.Fatalf("New(%d, %v) = %d", nodes, edges, e)
	}
	if !slices.Equal(given, edges) {
		t.Fatalf("New changes %v to %v", edges, given)
	}
	for i := range given {
		given[i] = graph.Edge{From: -5, To: -5}
	}
	return g
}

func (m model) graph(t *testing.T, random *rand.Rand) *graph.Graph {
	t.Helper()
	l := m.edges()
	for count := len(l); count > 0 && random.IntN(3) > 0; {
		l = append(l, l[random.IntN(count)])
	}
	random.Shuffle(len(l), func(i, j int) { l[i], l[j] = l[j], l[i] })
	return made(t, len(m), l...)
}

// models yields all graphs of up to three nodes, and some larger ones.
func models(random *rand.Rand, yield func(m model)) {
	for nodes := range 4 {
		for bits := range 1 << (nodes * nodes) {
			m := emptyModel(nodes)
			for i := range nodes * nodes {
				m[i/nodes][i%nodes] = bits>>i&1 == 1
			}
			yield(m)
		}
	}
	for range 3000 {
		yield(someModel(random, 4+random.IntN(4)))
	}
}

// someNumbers returns nodes and other numbers, in any order, some of them more than once.
func someNumbers(random *rand.Rand, nodes int) []int {
	l := make([]int, random.IntN(4))
	for i := range l {
		l[i] = random.IntN(nodes+2) - 1
	}
	return l
}
