package store

import (
	"replevin/api"
	"replevin/btree"
)

// batch is the number of parts that Keys reads at once.
const batch = 64

// transaction is what has been done since the last commit.
type transaction struct {
	tree    *btree.Tree // nil, as long as that of the last commit is not needed
	changed bool
	broken  api.Errno
}

// Get returns the value of a key, and whether there is one.
func (s *Store) Get(key string) (value string, is bool, e api.Errno) {
	if e := s.Broken(); e != api.OK || permittedKey(key) != api.OK {
		return "", false, e
	}
	t, e := s.tree()
	if e != api.OK {
		return "", false, e
	}
	l, e := t.Range(partKey(key, 0), key+"\x01", mostParts)
	if e != api.OK || len(l) == 0 {
		return "", false, e
	}
	value, e = joined(l)
	return value, e == api.OK, e
}

// Put gives a key a value, and Delete removes a key.
func (s *Store) Put(key, value string) api.Errno {
	if e := s.Broken(); e != api.OK {
		return e
	}
	if e := permittedKey(key); e != api.OK {
		return e
	}
	if len(value) > MaxValue {
		return api.ErrLong
	}
	_, e := s.change(func(t *btree.Tree) (bool, api.Errno) {
		count := 0
		for part, text := range parts(key, value) {
			if e := t.Put(part, text); e != api.OK {
				return false, e
			}
			count++
		}
		_, e := remove(t, key, count)
		return true, e
	})
	return e
}

func (s *Store) Delete(key string) (bool, api.Errno) {
	if e := s.Broken(); e != api.OK || permittedKey(key) != api.OK {
		return false, e
	}
	return s.change(func(t *btree.Tree) (bool, api.Errno) { return remove(t, key, 0) })
}

// Keys returns the first keys from one on that are less than another one (empty: no limit), in increasing order.
func (s *Store) Keys(from, to string, most int) ([]string, api.Errno) {
	if e := s.Broken(); e != api.OK || most <= 0 {
		return nil, e
	}
	t, e := s.tree()
	if e != api.OK {
		return nil, e
	}
	var keys []string
	from, to = border(from), border(to)
	for len(keys) < most {
		l, e := t.Range(from, to, min(batch, most-len(keys)))
		if e != api.OK {
			return nil, e
		}
		if len(l) == 0 {
			break
		}
		for _, x := range l {
			if key := owner(x.Key); x.Key == partKey(key, 0) {
				keys = append(keys, key)
			}
		}
		// The other parts of the last entry are passed over.
		from = owner(l[len(l)-1].Key) + "\x01"
	}
	return keys, api.OK
}

// Commit makes the changes since the last commit durable, and Abort takes them back.
func (s *Store) Commit() api.Errno {
	if e := s.Broken(); e != api.OK || !s.now.changed {
		return e
	}
	next := root{s.last.generation + 1, s.now.tree.Root()}
	if e := s.publish(next); e != api.OK {
		s.now.broken = e
		s.failed = true
		return e
	}
	s.blocks.Commit()
	s.last = next
	s.now = transaction{tree: s.now.tree}
	return api.OK
}

func (s *Store) Abort() api.Errno {
	switch {
	case s == nil:
		return api.ErrArgument
	case s.device.Down():
		return api.ErrCrash
	case s.failed:
		return api.ErrState
	}
	s.blocks.Abort()
	s.now = transaction{}
	return api.OK
}

// publish makes the tree of a root durable before the root itself.
func (s *Store) publish(r root) api.Errno {
	if e := s.device.Flush(); e != api.OK {
		return e
	}
	if e := r.write(s.device, s.first); e != api.OK {
		return e
	}
	return s.device.Flush()
}

// tree returns the tree of the transaction.
func (s *Store) tree() (*btree.Tree, api.Errno) {
	if s.now.tree == nil {
		t, e := btree.Load(s.device, s.blocks, s.last.block)
		if e != api.OK {
			return nil, e
		}
		s.now.tree = t
	}
	return s.now.tree, api.OK
}

// change changes the tree. An error breaks the transaction.
func (s *Store) change(apply func(t *btree.Tree) (bool, api.Errno)) (bool, api.Errno) {
	t, e := s.tree()
	is := false
	if e == api.OK {
		is, e = apply(t)
	}
	if e != api.OK {
		s.now.broken = e
		return false, e
	}
	s.now.changed = s.now.changed || is
	return is, api.OK
}

// remove deletes the parts of an entry from an index on, and reports whether there were any.
func remove(t *btree.Tree, key string, from int) (bool, api.Errno) {
	for i := from; ; i++ {
		is, e := t.Delete(partKey(key, i))
		if e != api.OK || !is {
			return i > from, e
		}
	}
}
