package graph_test

import (
	"math/rand/v2"
	"slices"
	"testing"

	"replevin/api"
	"replevin/graph"
)

const large = int(^uint(0) >> 1)

// P8.1, P8.2
func TestNeighbours(t *testing.T) {
	random := rand.New(rand.NewPCG(1, 8))
	models(random, func(m model) {
		g := m.graph(t, random)
		if g.Nodes() != len(m) || !slices.Equal(g.Edges(), m.edges()) {
			t.Fatalf("%v: Nodes = %d, Edges = %v", m.edges(), g.Nodes(), g.Edges())
		}
		for n := -1; n <= len(m); n++ {
			var after, before []int
			for other := -1; other <= len(m); other++ {
				leads, led := m.has(n, other), m.has(other, n)
				if leads {
					after = append(after, other)
				}
				if led {
					before = append(before, other)
				}
				if g.Has(n, other) != leads || g.Has(other, n) != led {
					t.Fatalf("%v: Has of %d and %d", m.edges(), n, other)
				}
			}
			if !slices.Equal(g.After(n), after) || !slices.Equal(g.Before(n), before) {
				t.Fatalf("%v: After(%d) = %v, Before(%d) = %v", m.edges(), n, g.After(n), n, g.Before(n))
			}
		}
	})
}

func (m model) has(from, to int) bool {
	return from >= 0 && from < len(m) && to >= 0 && to < len(m) && m[from][to]
}

// P8.1
func TestLimits(t *testing.T) {
	fits := make([]graph.Edge, graph.MaxEdges)
	for i := range fits {
		fits[i] = graph.Edge{From: i % 256, To: i / 256}
	}
	equal := make([]graph.Edge, graph.MaxEdges)
	wrong := append(slices.Clone(fits), graph.Edge{From: 0, To: graph.MaxNodes})
	for i, x := range []struct {
		nodes int
		edges []graph.Edge
		count int
		want  api.Errno
	}{
		{0, nil, 0, api.OK}, {1, nil, 0, api.OK}, {graph.MaxNodes, nil, 0, api.OK}, {graph.MaxNodes, fits, graph.MaxEdges, api.OK}, {256, fits, graph.MaxEdges, api.OK}, {1, equal, 1, api.OK},
		{-1, nil, 0, api.ErrRange}, {graph.MaxNodes + 1, nil, 0, api.ErrRange}, {-large - 1, nil, 0, api.ErrRange}, {large, nil, 0, api.ErrRange}, {-1, wrong, 0, api.ErrRange}, {graph.MaxNodes + 1, wrong, 0, api.ErrRange}, {-1, wrong[len(fits):], 0, api.ErrRange},
		{graph.MaxNodes, wrong, 0, api.ErrLimit}, {1, append(slices.Clone(equal), graph.Edge{}), 0, api.ErrLimit}, {0, wrong, 0, api.ErrLimit},
		{graph.MaxNodes, wrong[len(fits):], 0, api.ErrNotFound}, {255, fits, 0, api.ErrNotFound}, {0, equal[:1], 0, api.ErrNotFound},
	} {
		g, e := graph.New(x.nodes, x.edges)
		if e != x.want || (g == nil) != (e != api.OK) {
			t.Errorf("%d: New = %v, %d; want %d", i, g != nil, e, x.want)
		}
		if e == api.OK && (g.Nodes() != x.nodes || len(g.Edges()) != x.count) {
			t.Errorf("%d: %d nodes, %d edges", i, g.Nodes(), len(g.Edges()))
		}
	}
}

// P8.1
func TestEdgesThatJoinNoNodes(t *testing.T) {
	for _, nodes := range []int{0, 1, 3} {
		for _, n := range []int{-large - 1, -1, nodes, nodes + 1, large} {
			for _, wrong := range []graph.Edge{{From: n, To: 0}, {From: 0, To: n}, {From: n, To: n}} {
				for _, l := range [][]graph.Edge{{wrong}, {{}, {}, wrong}, {wrong, {}}} {
					if g, e := graph.New(nodes, l); g != nil || e != api.ErrNotFound {
						t.Errorf("New(%d, %v) = %d", nodes, l, e)
					}
				}
			}
		}
	}
}

// P8.2, P8.7
func TestReverse(t *testing.T) {
	random := rand.New(rand.NewPCG(2, 8))
	models(random, func(m model) {
		g, turned := m.graph(t, random), m.turned()
		r := g.Reverse()
		if r.Nodes() != len(m) || !slices.Equal(r.Edges(), turned.edges()) || !r.Equal(turned.graph(t, random)) {
			t.Fatalf("%v: Reverse has the edges %v", m.edges(), r.Edges())
		}
		for n := range m {
			if !slices.Equal(r.After(n), g.Before(n)) || !slices.Equal(r.Before(n), g.After(n)) {
				t.Fatalf("%v: neighbours of %d in the reverse", m.edges(), n)
			}
		}
		if !r.Reverse().Equal(g) || !slices.Equal(g.Edges(), m.edges()) {
			t.Fatalf("%v: the reverse of the reverse has the edges %v", m.edges(), r.Reverse().Edges())
		}
	})
}

// P8.7
func TestEqual(t *testing.T) {
	random := rand.New(rand.NewPCG(3, 8))
	edge := func(l ...int) []graph.Edge {
		var edges []graph.Edge
		for i := 0; i < len(l); i += 2 {
			edges = append(edges, graph.Edge{From: l[i], To: l[i+1]})
		}
		return edges
	}
	different := []*graph.Graph{nil, made(t, 0), made(t, 1), made(t, 2), made(t, 3), made(t, 1, edge(0, 0)...), made(t, 3, edge(0, 0)...)}
	for _, l := range [][]graph.Edge{edge(0, 1), edge(1, 0), edge(0, 1, 1, 0), edge(0, 1, 1, 2), edge(0, 1, 0, 2), edge(1, 1), edge(0, 2)} {
		different = append(different, made(t, 3, l...))
	}
	for i, a := range different {
		for j, b := range different {
			if a.Equal(b) != (i == j) {
				t.Errorf("Equal of the graphs %d and %d = %t", i, j, a.Equal(b))
			}
		}
	}
	models(random, func(m model) {
		a, b := m.graph(t, random), m.graph(t, random)
		if !a.Equal(b) || a.Equal(nil) || (*graph.Graph)(nil).Equal(a) {
			t.Fatalf("%v: Equal", m.edges())
		}
		if len(m) > 0 {
			from, to := random.IntN(len(m)), random.IntN(len(m))
			m[from][to] = !m[from][to]
			if c := m.graph(t, random); a.Equal(c) || c.Equal(a) {
				t.Fatalf("%v: Equal of a graph with other edges", m.edges())
			}
		}
	})
}

// P8.7
func TestNil(t *testing.T) {
	var g *graph.Graph
	if g.Nodes() != 0 || len(g.Edges()) != 0 || len(g.After(0)) != 0 || len(g.Before(0)) != 0 || g.Has(0, 0) || g.Reverse() != nil {
		t.Error("nodes or edges of nil")
	}
	if len(g.Reach([]int{0})) != 0 || len(g.Between([]int{0}, []int{0})) != 0 || len(g.Components()) != 0 {
		t.Error("sets of nodes of nil")
	}
	if l, is := g.Path(0, 0); len(l) != 0 || is {
		t.Errorf("Path = %v, %t", l, is)
	}
	if l, is := g.Order(); len(l) != 0 || is {
		t.Errorf("Order = %v, %t", l, is)
	}
	if !g.Equal(nil) {
		t.Error("two nil graphs are not equal")
	}
}

// P8.5, P8.7: the zero value and a graph without nodes have the same answers.
func TestWithoutNodes(t *testing.T) {
	for _, g := range []*graph.Graph{made(t, 0), {}, made(t, 0).Reverse()} {
		if g.Nodes() != 0 || len(g.Edges()) != 0 || len(g.Reach([]int{0})) != 0 || len(g.Between([]int{0}, []int{0})) != 0 || len(g.Components()) != 0 {
			t.Error("there are nodes")
		}
		if l, is := g.Path(0, 0); len(l) != 0 || is {
			t.Errorf("Path = %v, %t", l, is)
		}
		if l, is := g.Order(); len(l) != 0 || !is {
			t.Errorf("Order = %v, %t", l, is)
		}
		if !g.Equal(made(t, 0)) || !made(t, 0).Equal(g) || g.Equal(made(t, 1)) || g.Equal(nil) {
			t.Error("Equal")
		}
	}
}

// P8.8
func TestResultsAreNew(t *testing.T) {
	random := rand.New(rand.NewPCG(4, 8))
	spoil := func(l []int) {
		l = l[:cap(l)]
		for i := range l {
			l[i] = -7
		}
	}
	for range 300 {
		m := someModel(random, 5)
		g, same := m.graph(t, random), m.graph(t, random)
		edges := g.Edges()
		for i := range edges {
			edges[i] = graph.Edge{From: -7, To: -7}
		}
		for n := range m {
			spoil(g.After(n))
			spoil(g.Before(n))
			path, _ := g.Path(0, n)
			spoil(path)
		}
		spoil(g.Reach([]int{0, 1, 2}))
		spoil(g.Between([]int{0, 1, 2}, []int{3, 4}))
		order, _ := g.Order()
		spoil(order)
		groups, want := g.Components(), m.components()
		for i := range groups {
			if !slices.Equal(groups[i], want[i]) {
				t.Fatalf("%v: the group %d shares memory with one before it", m.edges(), i)
			}
			spoil(groups[i])
		}
		if !g.Equal(same) || !g.Reverse().Equal(same.Reverse()) {
			t.Fatalf("%v: results share memory with the graph", m.edges())
		}
	}
}
