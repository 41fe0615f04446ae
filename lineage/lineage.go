// Package lineage names processes by their descent (layer 3, see shared/doc/03-lineage.md).
package lineage

import (
	"cmp"
	"slices"
	"strconv"
	"strings"

	"replevin/api"
	"replevin/sha256"
)

// MaxOrdinal is the greatest ordinal.
const MaxOrdinal = 999999

// Name is the name of a process: the ordinals on the way from the kernel to it, separated by dots. The empty name is that of the kernel.
type Name string

// Make returns the name with ordinals, and Parse the name with a text, or the offset of the first error and its kind.
func Make(ordinals []int) (Name, api.Errno) {
	if len(ordinals) > api.MaxLineage {
		return "", api.ErrLimit
	}
	var text strings.Builder
	for i, ordinal := range ordinals {
		if !isOrdinal(ordinal) {
			return "", api.ErrRange
		}
		if i > 0 {
			text.WriteByte('.')
		}
		text.WriteString(strconv.Itoa(ordinal))
	}
	return Name(text.String()), api.OK
}

func Parse(s string) (n Name, at int, e api.Errno) {
	if _, at, e := read(s); e != api.OK {
		return "", at, e
	}
	return Name(s), 0, api.OK
}

func Valid(n Name) bool {
	_, ok := n.list()
	return ok
}

// Ordinals returns the ordinals of a name, Depth their number, and Last the last one.
func (n Name) Ordinals() []int {
	l, _ := n.list()
	return slices.Clone(l.ordinals[:l.depth])
}

func (n Name) Depth() int {
	l, _ := n.list()
	return l.depth
}

func (n Name) Last() int {
	l, _ := n.list()
	if l.depth == 0 {
		return 0
	}
	return l.ordinals[l.depth-1]
}

// Child returns the name of a child with an ordinal, Parent that of the parent, and Root that of the first ancestor below the kernel.
func (n Name) Child(ordinal int) (Name, api.Errno) {
	l, ok := n.list()
	switch {
	case !ok:
		return "", api.ErrName
	case !isOrdinal(ordinal):
		return "", api.ErrRange
	}
	return Make(append(l.ordinals[:l.depth:l.depth], ordinal))
}

func (n Name) Parent() (Name, bool) {
	l, ok := n.list()
	if !ok || l.depth == 0 {
		return "", false
	}
	return l.first(l.depth - 1), true
}

func (n Name) Root() Name {
	l, _ := n.list()
	return l.first(min(l.depth, 1))
}

// Within reports whether a name is another one or that of a descendant of it, and Common returns the last common ancestor.
func Within(n, ancestor Name) bool {
	a, ok := n.list()
	b, both := ancestor.list()
	return ok && both && shared(a, b) == b.depth
}

func Common(a, b Name) Name {
	// A text that is not a name has an empty list, which has nothing in common with any other.
	l, _ := a.list()
	o, _ := b.list()
	return l.first(shared(l, o))
}

// Compare orders names: ancestors first, then by ordinals.
func Compare(a, b Name) int {
	l, ok := a.list()
	o, both := b.list()
	switch {
	case ok && both:
		return slices.Compare(l.ordinals[:l.depth], o.ordinals[:o.depth])
	case ok:
		return -1
	case both:
		return 1
	}
	return cmp.Compare(a, b)
}

// Sort returns the different names of a list in order, and Tops those of them that have no other one above them.
func Sort(l []Name) []Name {
	sorted := slices.Clone(l)
	slices.SortFunc(sorted, func(a, b Name) int { return Compare(a, b) })
	return slices.Compact(sorted)
}

func Tops(l []Name) []Name {
	var tops []Name
	for _, n := range Sort(l) {
		// The names within a top follow it in order, without others in between.
		if len(tops) == 0 || !Within(n, tops[len(tops)-1]) {
			tops = append(tops, n)
		}
	}
	return tops
}

// Covers reports whether a name is within one of a list.
func Covers(l []Name, n Name) bool {
	return slices.ContainsFunc(l, func(ancestor Name) bool { return Within(n, ancestor) })
}

// Choose returns a number below a limit that depends on a name, on the number of choices before, and on a seed.
func Choose(seed [32]byte, n Name, count, limit int) (int, api.Errno) {
	switch {
	case !Valid(n):
		return 0, api.ErrName
	case count < 0 || limit < 1 || limit > 1<<31:
		return 0, api.ErrRange
	}
	text := append(seed[:], n...)
	text = append(text, 0)
	for shift := 56; shift >= 0; shift -= 8 {
		text = append(text, byte(count>>shift))
	}
	digest := sha256.Sum(string(text))
	number := 0
	for _, b := range digest[:7] {
		number = number<<8 | int(b)
	}
	return number % limit, api.OK
}

func isOrdinal(n int) bool { return n >= 1 && n <= MaxOrdinal }
