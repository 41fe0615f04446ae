package logtree

import (
	"iter"
	"math/bits"

	"replevin/sha256"
)

// A part is some leaves of a list that follow one another, of which the rules speak as of a list.
type part struct{ from, count int }

func (p part) end() int { return p.from + p.count }

// divide expects a part of at least two leaves.
func (p part) divide() (left, right part) {
	size := leftSize(p.count)
	return part{p.from, size}, part{p.from + size, p.count - size}
}

// leftSize returns the greatest power of 2 that is less than n, which is at least 2.
func leftSize(n int) int { return 1 << (bits.Len(uint(n-1)) - 1) }

// The sides on which the root of a part is joined; start means that the way begins with it.
const (
	start = iota
	before
	behind
)

// A step is the part whose root comes next in a path, and its side.
type step struct {
	part
	side int
}

// join returns what the node has below it to which a step leads from a digest.
func (s step) join(d, other sha256.Digest) below {
	if s.side == before {
		return below{other, d}
	}
	return below{d, other}
}

// pathSteps yields the steps from the leaf with an index up to the root of n leaves.
func pathSteps(index, n int) iter.Seq[step] {
	return func(yield func(step) bool) { part{0, n}.path(index, yield) }
}

// extensionSteps yields the steps of the extension path from the first m to n leaves.
func extensionSteps(m, n int) iter.Seq[step] {
	return func(yield func(step) bool) {
		if m > 0 {
			part{0, n}.extension(m, yield)
		}
	}
}

// path is the rule for paths; it reports whether yield has always returned true.
func (p part) path(index int, yield func(step) bool) bool {
	if p.count == 1 {
		return true
	}
	left, right := p.divide()
	if index < right.from {
		return left.path(index, yield) && yield(step{right, behind})
	}
	return right.path(index, yield) && yield(step{left, before})
}

// extension is the rule for extension paths, for a part in which the old leaves end at an offset of the list.
//
// The parts that count as the whole list are those that begin with it: they are reached through left parts only.
func (p part) extension(old int, yield func(step) bool) bool {
	if p.end() == old {
		return p.from == 0 || yield(step{p, start})
	}
	left, right := p.divide()
	if old <= right.from {
		return left.extension(old, yield) && yield(step{right, behind})
	}
	return right.extension(old, yield) && yield(step{left, before})
}

// completed yields the parts of 2, 4, 8 .. leaves that are complete when a list gets its last leaf before end, which is not 0.
func completed(end int) iter.Seq[part] {
	return func(yield func(part) bool) {
		for count := 2; end%count == 0; count *= 2 {
			if !yield(part{end - count, count}) {
				return
			}
		}
	}
}
