package btree

import (
	"slices"
	"strings"
)

// child is a child of an inner node: the node in a block, or a new node that has no block yet. No key in it is less than its own, and all keys in the child ahead of it are.
//
// The key of the first child means nothing and is not written: the node takes whatever is less than the key of the second one.
type child struct {
	key   string
	block int
	node  node
}

// inner is a node with children. A child has the length of its key in a byte and the key, but for the first one, and its block in two bytes.
type inner struct{ children []child }

func (n *inner) kind() byte { return innerKind }

func (n *inner) read(s *source, count int) {
	for i := range count {
		key := ""
		if i > 0 {
			key = s.key()
		}
		n.children = append(n.children, child{key: key, block: s.number(2)})
	}
}

func (n *inner) write(b []byte) []byte {
	for i, x := range n.children {
		if i > 0 {
			b = append(append(b, byte(len(x.key))), x.key...)
		}
		b = append(b, pair(x.block)...)
	}
	return b
}

func (n *inner) count() int { return len(n.children) }

func (n *inner) least() int { return 2 }

func (n *inner) size(i int) int {
	if i == 0 {
		return 2
	}
	return 3 + len(n.children[i].key)
}

func (n *inner) cut(at int) node {
	second := &inner{slices.Clone(n.children[at:])}
	n.children = n.children[:at]
	return second
}

func (n *inner) key() string { return n.children[0].key }

func (n *inner) ends() (string, string) {
	return n.children[1].key, n.children[len(n.children)-1].key
}

func (n *inner) below() []child { return n.children }

// find returns the index of the child for a key.
func (n *inner) find(key string) int {
	i, is := slices.BinarySearchFunc(n.children[1:], key, func(x child, key string) int { return strings.Compare(x.key, key) })
	if is {
		i++
	}
	return i
}

// replace puts nodes in the place of the children from one index to another one. The first of them has the key of the first child that it replaces.
func (n *inner) replace(from, to int, l []node) {
	key := n.children[from].key
	fresh := make([]child, 0, len(l))
	for _, x := range l {
		if len(fresh) > 0 {
			key = x.key()
		}
		fresh = append(fresh, child{key: key, node: x})
	}
	n.children = slices.Replace(n.children, from, to, fresh...)
}

// join appends the children of the next node, which has a key.
func (n *inner) join(key string, next []child) {
	at := len(n.children)
	n.children = append(n.children, next...)
	n.children[at].key = key
}
