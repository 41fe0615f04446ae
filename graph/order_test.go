package graph_test

import (
	"math/rand/v2"
	"slices"
	"testing"

	"replevin/graph"
)

// P8.5, P8.8
func TestOrder(t *testing.T) {
	random := rand.New(rand.NewPCG(8, 8))
	models(random, func(m model) {
		g := m.graph(t, random)
		want, is := m.order()
		l, ok := g.Order()
		if !slices.Equal(l, want) || ok != is {
			t.Fatalf("%v: Order = %v, %t; want %v, %t", m.edges(), l, ok, want, is)
		}
		for _, edge := range g.Edges() {
			if ok && slices.Index(l, edge.From) >= slices.Index(l, edge.To) {
				t.Fatalf("%v: in the order %v an edge leads back", m.edges(), l)
			}
		}
	})
}

// P8.5: a node that becomes free is not behind those that have been free for long.
func TestSmallestFirst(t *testing.T) {
	g := made(t, 6, graph.Edge{From: 3, To: 0}, graph.Edge{From: 3, To: 5}, graph.Edge{From: 2, To: 1}, graph.Edge{From: 5, To: 1})
	if l, is := g.Order(); !slices.Equal(l, []int{2, 3, 0, 4, 5, 1}) || !is {
		t.Errorf("Order = %v, %t", l, is)
	}
	if l, is := made(t, 3).Order(); !slices.Equal(l, []int{0, 1, 2}) || !is {
		t.Errorf("Order = %v, %t", l, is)
	}
	if l, is := made(t, 3, graph.Edge{From: 1, To: 1}).Order(); len(l) != 0 || is {
		t.Errorf("Order = %v, %t", l, is)
	}
}

// P8.6, P8.8
func TestComponents(t *testing.T) {
	random := rand.New(rand.NewPCG(9, 8))
	same := func(a, b []int) bool { return slices.Equal(a, b) }
	models(random, func(m model) {
		g := m.graph(t, random)
		groups := g.Components()
		if want := m.components(); !slices.EqualFunc(groups, want, same) {
			t.Fatalf("%v: Components = %v; want %v", m.edges(), groups, want)
		}
		within := false
		for _, edge := range g.Edges() {
			within = within || slices.ContainsFunc(groups, func(l []int) bool { return slices.Contains(l, edge.From) && slices.Contains(l, edge.To) })
		}
		if _, is := g.Order(); is == within {
			t.Fatalf("%v: there is an order: %t, but an edge within a group: %t", m.edges(), is, within)
		}
	})
	for range 100 {
		m := someModel(random, 40)
		if l, want := m.graph(t, random).Components(), m.components(); !slices.EqualFunc(l, want, same) {
			t.Fatalf("%v: Components = %v; want %v", m.edges(), l, want)
		}
	}
}

// P8.3 to P8.6: as many edges as permitted.
func TestAllEdges(t *testing.T) {
	const nodes = 256
	all := make([]graph.Edge, graph.MaxEdges)
	for i := range all {
		all[i] = graph.Edge{From: i % nodes, To: i / nodes}
	}
	g := made(t, nodes, all...)
	if l := g.Components(); len(l) != 1 || len(l[0]) != nodes || len(g.Reach([]int{7})) != nodes {
		t.Errorf("Components has %d groups", len(l))
	}
	if l, is := g.Path(255, 254); !slices.Equal(l, []int{255, 254}) || !is {
		t.Errorf("Path = %v, %t", l, is)
	}
	if l, is := g.Order(); len(l) != 0 || is {
		t.Errorf("Order has %d nodes, %t", len(l), is)
	}
	back := slices.DeleteFunc(all, func(e graph.Edge) bool { return e.From <= e.To })
	if l, is := made(t, nodes, back...).Order(); len(l) != nodes || l[0] != nodes-1 || l[nodes-1] != 0 || !is {
		t.Errorf("Order has %d nodes, %t", len(l), is)
	}
}
