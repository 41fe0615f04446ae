package state

import (
	"replevin/api"
	"replevin/object"
)

// Change is a new value of an object; Absent means that it has none.
type Change struct {
	Name   object.Name
	Value  string
	Absent bool
}

// Apply returns the state after changes, one after the other.
func (s *State) Apply(l []Change) (*State, api.Errno) {
	if s == nil {
		return nil, api.ErrArgument
	}
	after := s
	for _, c := range l {
		next, e := after.change(c)
		if e != api.OK {
			return nil, e
		}
		after = next
	}
	return after, api.OK
}

func (s *State) change(c Change) (*State, api.Errno) {
	if c.Absent {
		return s.Without(c.Name)
	}
	return s.With(c.Name, c.Value)
}

// Diff returns the changes that lead from one state to another one, in increasing order of the names.
func Diff(from, to *State) []Change {
	if from == nil || to == nil {
		return nil
	}
	var l []Change
	compare(from.root, to.root, span{}, func(c Change) bool {
		l = append(l, c)
		return true
	})
	return l
}

// Equal reports whether two states have the same objects with the same values.
func (s *State) Equal(o *State) bool {
	if s == nil || o == nil {
		return s == nil && o == nil
	}
	return compare(s.root, o.root, span{}, func(Change) bool { return false })
}

// A span consists of the names between those of two nodes; nil is no bound.
type span struct{ low, high *node }

// side returns -1, 0 or 1 for a name before, in or behind a span.
func (p span) side(n object.Name) int {
	switch {
	case p.low != nil && object.Compare(n, p.low.name) <= 0:
		return -1
	case p.high != nil && object.Compare(n, p.high.name) >= 0:
		return 1
	}
	return 0
}

// compare yields the changes in a span until yield returns false, and reports whether it never did.
//
// Parts that both trees share are not visited: states are mostly compared with states that were made from them by few changes.
func compare(from, to *node, p span, yield func(Change) bool) bool {
	from, to = from.top(p), to.top(p)
	switch {
	case from == to:
		return true
	case from == nil:
		return to.visit(p.side, func(x item) bool { return yield(Change{Name: x.name, Value: x.value}) })
	case to == nil:
		return from.visit(p.side, func(x item) bool { return yield(Change{Name: x.name, Absent: true}) })
	}
	return compare(from.left, to, span{p.low, from}, yield) && compareItem(from.item, to, yield) && compare(from.right, to, span{from, p.high}, yield)
}

// compareItem yields the change of one object.
func compareItem(from item, to *node, yield func(Change) bool) bool {
	value, is := to.get(from.name)
	if is && value == from.value {
		return true
	}
	return yield(Change{Name: from.name, Value: value, Absent: !is})
}
