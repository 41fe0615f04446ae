package btree

import (
	"slices"

	"replevin/api"
)

// Range returns the first entries whose keys are from one key on and less than another one (empty: no limit), in increasing order.
func (t *Tree) Range(from, to string, most int) ([]Item, api.Errno) {
	switch {
	case t == nil:
		return nil, api.ErrArgument
	case t.root == None || most <= 0:
		return nil, api.OK
	}
	s := selection{from: from, to: to, most: most}
	if e := s.collect(t, t.root, nil); e != api.OK {
		return nil, e
	}
	return s.found, api.OK
}

// selection is what Range looks for, and what it has found.
type selection struct {
	from, to string
	most     int
	found    []Item
}

// ended reports whether nothing is found from a key on.
func (s *selection) ended(key string) bool {
	return len(s.found) == s.most || s.to != "" && key >= s.to
}

// collect finds entries in the node in a block, and below it.
func (s *selection) collect(t *Tree, block int, above []int) api.Errno {
	n, e := t.read(block, above)
	if e != api.OK {
		return e
	}
	switch n := n.(type) {
	case *leaf:
		i, _ := n.find(s.from)
		for ; i < len(n.entries) && !s.ended(n.entries[i].Key); i++ {
			s.found = append(s.found, n.entries[i])
		}
	case *inner:
		for i := n.find(s.from); i < len(n.children) && !s.ended(n.children[i].key); i++ {
			if e := s.collect(t, n.children[i].block, append(above, block)); e != api.OK {
				return e
			}
		}
	}
	return api.OK
}

// Len returns the number of entries, Height the number of levels, and Blocks the blocks of all nodes in increasing order.
func (t *Tree) Len() (int, api.Errno) {
	s, e := t.sum()
	return s.entries, e
}

func (t *Tree) Height() (int, api.Errno) {
	s, e := t.sum()
	return s.height, e
}

func (t *Tree) Blocks() ([]int, api.Errno) {
	s, e := t.sum()
	slices.Sort(s.blocks)
	return s.blocks, e
}

// sum is what there is in a tree.
type sum struct {
	entries int
	height  int
	blocks  []int
}

// sum reads all nodes.
func (t *Tree) sum() (sum, api.Errno) {
	var s sum
	switch {
	case t == nil:
		return sum{}, api.ErrArgument
	case t.root == None:
		return sum{}, api.OK
	}
	if e := s.add(t, t.root, nil); e != api.OK {
		return sum{}, e
	}
	return s, api.OK
}

// add adds the node in a block, and those below it.
func (s *sum) add(t *Tree, block int, above []int) api.Errno {
	n, e := t.read(block, above)
	if e != api.OK {
		return e
	}
	s.height = max(s.height, len(above)+1)
	s.blocks = append(s.blocks, block)
	if len(n.below()) == 0 {
		s.entries += n.count()
	}
	for _, x := range n.below() {
		if e := s.add(t, x.block, append(above, block)); e != api.OK {
			return e
		}
	}
	return api.OK
}

// Check returns the first error of the structure of a tree.
func (t *Tree) Check() api.Errno {
	switch {
	case t == nil:
		return api.ErrArgument
	case t.root == None:
		return api.OK
	}
	c := inspection{tree: t, seen: map[int]bool{}}
	return c.inspect(t.root, 1, "", "")
}

// inspection is what was seen of a tree.
type inspection struct {
	tree  *Tree
	seen  map[int]bool // the blocks
	level int          // that of the leaves, if there were any
}

// inspect inspects the node in a block, and those below it, whose keys must not be less than one key, and must be less than another one (empty: no limit).
func (c *inspection) inspect(block, level int, low, high string) api.Errno {
	if !c.tree.uses(block) || c.seen[block] {
		return api.ErrFormat
	}
	c.seen[block] = true
	n, e := c.tree.read(block, nil)
	if e != api.OK {
		return e
	}
	least, greatest := n.ends()
	if least < low || high != "" && greatest >= high {
		return api.ErrFormat
	}
	children := n.below()
	if len(children) == 0 {
		if c.level == 0 {
			c.level = level
		}
		if c.level != level {
			return api.ErrFormat
		}
	}
	for i, x := range children {
		from, to := x.key, high
		if i == 0 {
			from = low
		}
		if i+1 < len(children) {
			to = children[i+1].key
		}
		if e := c.inspect(x.block, level+1, from, to); e != api.OK {
			return e
		}
	}
	return api.OK
}
