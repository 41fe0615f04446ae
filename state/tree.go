package state

import (
	"iter"

	"replevin/object"
)

// An item is an object with its value.
type item struct {
	name  object.Name
	value string
}

// A node is the root of a search tree; nil is the empty tree. The heights of both subtrees differ by at most one.
//
// Nodes never change, so that trees can share them.
type node struct {
	item
	left, right *node
	sums        sums
}

// sums describe a whole tree.
type sums struct{ height, items, bytes int }

func (t *node) total() sums {
	if t == nil {
		return sums{}
	}
	return t.sums
}

func (t *node) get(n object.Name) (string, bool) {
	for t != nil {
		switch object.Compare(n, t.name) {
		case -1:
			t = t.left
		case 1:
			t = t.right
		default:
			return t.value, true
		}
	}
	return "", false
}

func (t *node) with(x item) *node {
	if t == nil {
		return join(nil, x, nil)
	}
	switch object.Compare(x.name, t.name) {
	case -1:
		return balance(t.left.with(x), t.item, t.right)
	case 1:
		return balance(t.left, t.item, t.right.with(x))
	}
	return join(t.left, x, t.right)
}

// without expects that the object has a value.
func (t *node) without(n object.Name) *node {
	switch object.Compare(n, t.name) {
	case -1:
		return balance(t.left.without(n), t.item, t.right)
	case 1:
		return balance(t.left, t.item, t.right.without(n))
	}
	if t.right == nil {
		return t.left
	}
	next := t.right.first()
	return balance(t.left, next, t.right.without(next.name))
}

// first returns the first item of a tree that is not empty.
func (t *node) first() item {
	for t.left != nil {
		t = t.left
	}
	return t.item
}

// join returns the tree of an item and two trees, which are balanced already.
func join(left *node, x item, right *node) *node {
	a, b := left.total(), right.total()
	return &node{item: x, left: left, right: right, sums: sums{
		height: 1 + max(a.height, b.height),
		items:  1 + a.items + b.items,
		bytes:  len(x.value) + a.bytes + b.bytes,
	}}
}

// balance joins trees whose heights differ by at most two.
func balance(left *node, x item, right *node) *node {
	switch left.total().height - right.total().height {
	case 2:
		if middle := left.right; middle.total().height > left.left.total().height {
			return join(join(left.left, left.item, middle.left), middle.item, join(middle.right, x, right))
		}
		return join(left.left, left.item, join(left.right, x, right))
	case -2:
		if middle := right.left; middle.total().height > right.right.total().height {
			return join(join(left, x, middle.left), middle.item, join(middle.right, right.item, right.right))
		}
		return join(join(left, x, right.left), right.item, right.right)
	}
	return join(left, x, right)
}

// build returns the tree of items that are in order.
func build(l []item) *node {
	if len(l) == 0 {
		return nil
	}
	middle := len(l) / 2
	return join(build(l[:middle]), l[middle], build(l[middle+1:]))
}

// items yields the items of a range in order: side returns -1, 0 or 1 for a name before, in or behind the range.
func (t *node) items(side func(n object.Name) int) iter.Seq[item] {
	return func(yield func(item) bool) { t.visit(side, yield) }
}

// visit reports whether yield has always returned true.
func (t *node) visit(side func(n object.Name) int, yield func(item) bool) bool {
	if t == nil {
		return true
	}
	at := side(t.name)
	return (at < 0 || t.left.visit(side, yield)) && (at != 0 || yield(t.item)) && (at > 0 || t.right.visit(side, yield))
}

// anywhere is the range of all names.
func anywhere(object.Name) int { return 0 }

// top returns the highest node in a span, under which all others of the tree in this span are.
func (t *node) top(p span) *node {
	for t != nil {
		switch p.side(t.name) {
		case -1:
			t = t.right
		case 1:
			t = t.left
		default:
			return t
		}
	}
	return nil
}
