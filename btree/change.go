package btree

import (
	"slices"

	"replevin/api"
	"replevin/blocks"
)

// Put gives a key a value, and Delete removes a key.
func (t *Tree) Put(key, value string) api.Errno {
	switch {
	case t == nil:
		return api.ErrArgument
	case key == "":
		return api.ErrShort
	case len(key) > MaxKey || len(value) > MaxValue:
		return api.ErrLong
	}
	w, e := t.descend(key)
	if e != api.OK {
		return e
	}
	w.leaf.put(key, value)
	c := change{t, w}
	return c.finish(divide(w.leaf))
}

func (t *Tree) Delete(key string) (bool, api.Errno) {
	w, e := t.descend(key)
	if e != api.OK || !w.leaf.remove(key) {
		return false, e
	}
	var left []node
	if w.leaf.count() > 0 {
		left = []node{w.leaf}
	}
	c := change{t, w}
	if e := c.finish(left); e != api.OK {
		return false, e
	}
	return true, api.OK
}

// change is a change of a tree that is prepared in memory, and then written to new blocks. It replaces the nodes on the way to a leaf, and those in further blocks that are appended to the way's.
type change struct {
	tree *Tree
	way
}

// finish changes a tree so that nodes replace the leaf.
func (c *change) finish(l []node) api.Errno {
	for depth := len(c.steps) - 1; depth >= 0; depth-- {
		above, e := c.ascend(depth, l)
		if e != api.OK {
			return e
		}
		l = above
	}
	root := top(l)
	if root.fresh() > c.free() {
		return api.ErrNoSpace
	}
	return c.store(root)
}

// ascend returns the nodes that replace the one at a depth, after nodes have replaced its child on the way.
func (c *change) ascend(depth int, l []node) ([]node, api.Errno) {
	n, at := c.steps[depth].node, c.steps[depth].at
	n.replace(at, at+1, l)
	if lonely(l) {
		if e := c.join(depth); e != api.OK {
			return nil, e
		}
	}
	return divide(n), api.OK
}

// lonely reports whether nodes are one inner node with a single child, which cannot stay so.
func lonely(l []node) bool {
	return len(l) == 1 && l[0].count() < l[0].least()
}

// join joins the child on the way of the node at a depth, which has a single child, with a neighbour.
func (c *change) join(depth int) api.Errno {
	n, at := c.steps[depth].node, c.steps[depth].at
	first, other := at-1, at-1
	if at == 0 {
		first, other = 0, 1
	}
	neighbour, e := c.neighbour(n.children[other].block)
	if e != api.OK {
		// The neighbour is not on the way: its error comes second, where it is certain that there are not enough blocks.
		if n.children[at].fresh()-1+c.needed(depth) > c.free() {
			return api.ErrNoSpace
		}
		return e
	}
	n.children[other].node = neighbour
	joined := &inner{slices.Clone(n.children[first].node.below())}
	joined.join(n.children[first+1].key, n.children[first+1].node.below())
	n.replace(first, first+2, divide(joined))
	return api.OK
}

// neighbour reads the inner node in a block, which is then replaced, too.
func (c *change) neighbour(block int) (node, api.Errno) {
	n, e := c.tree.read(block, c.blocks)
	if e != api.OK {
		return nil, e
	}
	if len(n.below()) == 0 {
		return nil, api.ErrFormat
	}
	c.blocks = append(c.blocks, block)
	return n, api.OK
}

// needed returns the least number of new nodes that it takes to join two children of the node at a depth, with those above them.
//
// They are fewest if the two become one: then the node has a child less, and if it is left with a single one, it is joined as well, or, as the root, given up.
func (c *change) needed(depth int) int {
	for joins := 1; ; joins++ {
		switch {
		case len(c.steps[depth].node.children) > 2:
			return joins + depth + 1
		case depth == 0:
			return joins
		}
		depth--
	}
}

// top returns the root of a tree which consists of nodes and of what is below them.
func top(l []node) child {
	switch {
	case len(l) == 0:
		return child{block: None}
	case lonely(l):
		return l[0].below()[0]
	case len(l) == 1:
		return child{node: l[0]}
	}
	n := &inner{make([]child, 1)}
	n.replace(0, 1, l)
	return child{node: n}
}

// fresh returns the number of nodes that are new, of a child and below it.
func (x child) fresh() int {
	if x.node == nil {
		return 0
	}
	n := 1
	for _, y := range x.node.below() {
		n += y.fresh()
	}
	return n
}

// free returns the number of blocks that can be taken.
func (c *change) free() int { return c.tree.blocks.Number(blocks.Free) }

// store writes the new nodes, and gives back the blocks of those that they replace.
func (c *change) store(root child) api.Errno {
	var taken []int
	block, e := c.write(root, &taken)
	gone := c.blocks
	if e != api.OK {
		gone = taken
	} else {
		c.tree.root = block
	}
	for _, old := range gone {
		c.tree.blocks.Give(old)
	}
	return e
}

// write writes the new nodes of a child and below it to blocks that it takes, and returns the block of the child.
func (c *change) write(x child, taken *[]int) (int, api.Errno) {
	if x.node == nil {
		return x.block, api.OK
	}
	for i, y := range x.node.below() {
		block, e := c.write(y, taken)
		if e != api.OK {
			return 0, e
		}
		x.node.below()[i].block = block
	}
	block, e := c.tree.blocks.Take()
	if e != api.OK {
		return 0, e
	}
	*taken = append(*taken, block)
	return block, c.tree.device.Write(block, encode(x.node))
}
