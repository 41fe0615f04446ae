package graph_test

import (
	"math/rand/v2"
	"slices"
	"testing"

	"replevin/graph"
)

// P8.3
func TestReach(t *testing.T) {
	random := rand.New(rand.NewPCG(5, 8))
	models(random, func(m model) {
		g, paths := m.graph(t, random), m.paths()
		for range 3 {
			from, to := someNumbers(random, len(m)), someNumbers(random, len(m))
			var reached, between []int
			for n := range m {
				after := slices.ContainsFunc(from, func(f int) bool { return paths.has(f, n) })
				before := slices.ContainsFunc(to, func(f int) bool { return paths.has(n, f) })
				if after {
					reached = append(reached, n)
				}
				if after && before {
					between = append(between, n)
				}
			}
			givenFrom, givenTo := slices.Clone(from), slices.Clone(to)
			if l := g.Reach(from); !slices.Equal(l, reached) {
				t.Fatalf("%v: Reach(%v) = %v; want %v", m.edges(), from, l, reached)
			}
			if l := g.Between(from, to); !slices.Equal(l, between) {
				t.Fatalf("%v: Between(%v, %v) = %v; want %v", m.edges(), from, to, l, between)
			}
			if !slices.Equal(from, givenFrom) || !slices.Equal(to, givenTo) {
				t.Fatalf("Reach or Between changes its arguments")
			}
		}
	})
}

// P8.3
func TestReachFromOtherNumbers(t *testing.T) {
	g := made(t, 3, graph.Edge{From: 0, To: 1}, graph.Edge{From: 2, To: 1})
	none := []int{-large - 1, -1, 3, large}
	if l := g.Reach(none); len(l) != 0 {
		t.Errorf("Reach = %v", l)
	}
	if l := g.Reach(append(none, 0)); !slices.Equal(l, []int{0, 1}) {
		t.Errorf("Reach = %v", l)
	}
	for _, x := range []struct{ from, to, want []int }{
		{none, []int{1}, nil}, {[]int{0}, none, nil}, {none, none, nil}, {nil, []int{1}, nil}, {[]int{0}, nil, nil}, {nil, nil, nil},
		{[]int{1}, []int{0}, nil}, {[]int{0}, []int{2}, nil}, {[]int{1}, []int{1}, []int{1}}, {append(none, 2, 2, 0), append(none, 1, 1), []int{0, 1, 2}}, {[]int{1, 0}, []int{0, 2}, []int{0}},
	} {
		if l := g.Between(x.from, x.to); !slices.Equal(l, x.want) {
			t.Errorf("Between(%v, %v) = %v; want %v", x.from, x.to, l, x.want)
		}
	}
	if l := g.Reach(nil); len(l) != 0 {
		t.Errorf("Reach of nothing = %v", l)
	}
}

// P8.4, P8.8
func TestPath(t *testing.T) {
	random := rand.New(rand.NewPCG(6, 8))
	models(random, func(m model) {
		g := m.graph(t, random)
		for from := -1; from <= len(m); from++ {
			for to := -1; to <= len(m); to++ {
				var want []int
				is := false
				if min(from, to) >= 0 && max(from, to) < len(m) {
					want, is = m.path(from, to)
				}
				if l, ok := g.Path(from, to); !slices.Equal(l, want) || ok != is {
					t.Fatalf("%v: Path(%d, %d) = %v, %t; want %v, %t", m.edges(), from, to, l, ok, want, is)
				}
			}
		}
	})
}

// P8.4: of the shortest paths, the first one is not the one that is found first from either end.
func TestFirstOfPaths(t *testing.T) {
	var edges []graph.Edge
	for _, p := range [][]int{{9, 4, 3, 0}, {9, 2, 7, 0}, {9, 5, 1, 0}, {9, 2, 8, 0}, {9, 1, 6, 0}} {
		for i, from := range p[:len(p)-1] {
			edges = append(edges, graph.Edge{From: from, To: p[i+1]})
		}
	}
	if l, is := made(t, 10, edges...).Path(9, 0); !slices.Equal(l, []int{9, 1, 0}) || !is {
		t.Errorf("Path = %v, %t", l, is)
	}
	edges = slices.DeleteFunc(edges, func(e graph.Edge) bool { return e == graph.Edge{From: 9, To: 1} })
	if l, is := made(t, 10, edges...).Path(9, 0); !slices.Equal(l, []int{9, 2, 7, 0}) || !is {
		t.Errorf("Path = %v, %t", l, is)
	}
	if l, is := made(t, 10, edges...).Path(large, 0); len(l) != 0 || is {
		t.Errorf("Path = %v, %t", l, is)
	}
	if l, is := made(t, 10, edges...).Path(9, -large); len(l) != 0 || is {
		t.Errorf("Path = %v, %t", l, is)
	}
}

// P8.3 to P8.6: a path through as many nodes as permitted, in an order that is not theirs.
func TestLongestPath(t *testing.T) {
	random := rand.New(rand.NewPCG(7, 8))
	nodes := random.Perm(graph.MaxNodes)
	var edges []graph.Edge
	for i, from := range nodes[:len(nodes)-1] {
		edges = append(edges, graph.Edge{From: from, To: nodes[i+1]})
	}
	first, last := nodes[0], nodes[len(nodes)-1]
	g := made(t, len(nodes), edges...)
	if l, is := g.Path(first, last); !slices.Equal(l, nodes) || !is {
		t.Errorf("Path has %d nodes, %t", len(l), is)
	}
	if l, is := g.Order(); !slices.Equal(l, nodes) || !is {
		t.Errorf("Order has %d nodes, %t", len(l), is)
	}
	if l := g.Components(); len(l) != len(nodes) || len(g.Between([]int{first}, []int{last})) != len(nodes) || len(g.Reach([]int{nodes[1]})) != len(nodes)-1 {
		t.Errorf("Components has %d groups", len(l))
	}
	circle := made(t, len(nodes), append(edges, graph.Edge{From: last, To: first})...)
	if l, is := circle.Order(); len(l) != 0 || is {
		t.Errorf("Order of a circle has %d nodes, %t", len(l), is)
	}
	if l := circle.Components(); len(l) != 1 || len(l[0]) != len(nodes) || !slices.IsSorted(l[0]) {
		t.Errorf("Components of a circle has %d groups", len(l))
	}
	if l, is := circle.Path(last, first); !slices.Equal(l, []int{last, first}) || !is {
		t.Errorf("Path in a circle has %d nodes, %t", len(l), is)
	}
}
