package btree

import (
	"slices"
	"strings"
)

// leaf is a node with entries. An entry has the length of its key in a byte, the key, the length of its value in two bytes, and the value.
type leaf struct{ entries []Item }

func (l *leaf) kind() byte { return leafKind }

func (l *leaf) read(s *source, count int) {
	for range count {
		key := s.key()
		l.entries = append(l.entries, Item{key, s.text(s.number(2), MaxValue)})
	}
}

func (l *leaf) write(b []byte) []byte {
	for _, x := range l.entries {
		b = append(append(b, byte(len(x.Key))), x.Key...)
		b = append(append(b, pair(len(x.Value))...), x.Value...)
	}
	return b
}

func (l *leaf) count() int { return len(l.entries) }

func (l *leaf) least() int { return 1 }

func (l *leaf) size(i int) int { return 3 + len(l.entries[i].Key) + len(l.entries[i].Value) }

func (l *leaf) cut(at int) node {
	second := &leaf{slices.Clone(l.entries[at:])}
	l.entries = l.entries[:at]
	return second
}

func (l *leaf) key() string { return l.entries[0].Key }

func (l *leaf) ends() (string, string) {
	return l.entries[0].Key, l.entries[len(l.entries)-1].Key
}

func (l *leaf) below() []child { return nil }

// find returns the index at which a key is, or would be, and whether it is there.
func (l *leaf) find(key string) (int, bool) {
	return slices.BinarySearchFunc(l.entries, key, func(x Item, key string) int { return strings.Compare(x.Key, key) })
}

// put gives a key a value.
func (l *leaf) put(key, value string) {
	i, is := l.find(key)
	if !is {
		l.entries = slices.Insert(l.entries, i, Item{})
	}
	l.entries[i] = Item{key, value}
}

// remove removes a key, and reports whether it was there.
func (l *leaf) remove(key string) bool {
	i, is := l.find(key)
	if is {
		l.entries = slices.Delete(l.entries, i, i+1)
	}
	return is
}
