package lineage

import (
	"iter"

	"replevin/api"
)

// ordinalDigits is the number of digits of MaxOrdinal.
const ordinalDigits = 6

// part is an ordinal of a text with its offset, or the first error.
type part struct {
	at, ordinal int
	e           api.Errno
}

// list holds ordinals in an array, so that names are compared without allocating memory.
type list struct {
	ordinals [api.MaxLineage]int
	depth    int
}

// list returns the ordinals of a name, or none and false for a text that is not one.
func (n Name) list() (list, bool) {
	l, _, e := read(string(n))
	return l, e == api.OK
}

// first returns the name with the first ordinals of a list.
func (l list) first(depth int) Name {
	n, _ := Make(l.ordinals[:depth])
	return n
}

// shared returns how many first ordinals two lists share.
func shared(a, b list) int {
	most := min(a.depth, b.depth)
	for i := range most {
		if a.ordinals[i] != b.ordinals[i] {
			return i
		}
	}
	return most
}

func read(s string) (l list, at int, e api.Errno) {
	for p := range parts(s) {
		if p.e != api.OK {
			return list{}, p.at, p.e
		}
		l.ordinals[l.depth] = p.ordinal
		l.depth++
	}
	return l, 0, api.OK
}

// parts yields the ordinals of a text, at most api.MaxLineage of them, and ends with the first error.
func parts(s string) iter.Seq[part] {
	return func(yield func(part) bool) {
		if s == "" {
			return
		}
		at := 0
		for count := range api.MaxLineage + 1 {
			p, end := partAt(s, at, count)
			if !yield(p) || p.e != api.OK || end == len(s) {
				return
			}
			if s[end] != '.' {
				yield(part{at: end, e: api.ErrByte})
				return
			}
			at = end + 1
		}
	}
}

// partAt returns the ordinal at an offset that count ordinals precede, and the offset of its end.
func partAt(s string, at, count int) (part, int) {
	switch {
	case count == api.MaxLineage:
		return part{at: at, e: api.ErrLimit}, at
	case at == len(s):
		return part{at: at, e: api.ErrShort}, at
	case !isDigit(s[at]):
		return part{at: at, e: api.ErrByte}, at
	case s[at] == '0':
		return part{at: at, e: api.ErrFormat}, at
	}
	p, end := part{at: at}, at
	for end < len(s) && isDigit(s[end]) {
		if end-at == ordinalDigits {
			return part{at: at, e: api.ErrRange}, at
		}
		p.ordinal = 10*p.ordinal + int(s[end]-'0')
		end++
	}
	return p, end
}

func isDigit(b byte) bool { return b >= '0' && b <= '9' }
