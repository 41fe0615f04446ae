package store

import (
	"iter"
	"strings"

	"replevin/api"
	"replevin/btree"
	"replevin/codec"
)

const (
	// mostParts is the number of parts of the longest value, whose length has three bytes.
	mostParts = (MaxValue+3)/PartSize + 1
	// indexSize is the number of bytes behind the key of an entry, in the key of a part.
	indexSize = 3
)

// partKey returns the key of the part of an entry with an index.
func partKey(key string, i int) string {
	return key + string([]byte{0, byte(i >> 8), byte(i)})
}

// parts yields the keys and the values of the parts of an entry.
func parts(key, value string) iter.Seq2[string, string] {
	return func(yield func(string, string) bool) {
		// A length is not negative, so there is no error.
		size, _ := codec.Append(nil, len(value))
		rest := string(size) + value
		for i := 0; rest != ""; i++ {
			end := min(PartSize, len(rest))
			if !yield(partKey(key, i), rest[:end]) {
				return
			}
			rest = rest[end:]
		}
	}
}

// joined returns the value of an entry with given parts.
func joined(l []btree.Item) (string, api.Errno) {
	var b strings.Builder
	for _, x := range l {
		b.WriteString(x.Value)
	}
	text := b.String()
	n, size, e := codec.Parse([]byte(text))
	if e != api.OK || n != len(text)-size {
		return "", api.ErrFormat
	}
	return text[size:], api.OK
}

// whole reports whether a list consists of nothing but all parts of entries.
func whole(l []btree.Item) bool {
	for len(l) > 0 {
		key := owner(l[0].Key)
		end := 1
		for end < len(l) && owner(l[end].Key) == key {
			end++
		}
		value, e := joined(l[:end])
		if e != api.OK || permittedKey(key) != api.OK || len(value) > MaxValue || !same(l[:end], parts(key, value)) {
			return false
		}
		l = l[end:]
	}
	return true
}

// owner returns the key of the entry to which a part with a key belongs, or no key if there is no such entry.
func owner(part string) string {
	return part[:max(len(part)-indexSize, 0)]
}

// same reports whether a list consists of certain keys and values.
func same(l []btree.Item, want iter.Seq2[string, string]) bool {
	for key, value := range want {
		if len(l) == 0 || l[0] != (btree.Item{Key: key, Value: value}) {
			return false
		}
		l = l[1:]
	}
	return len(l) == 0
}

// permittedKey returns the first error of a key.
func permittedKey(key string) api.Errno {
	switch {
	case key == "":
		return api.ErrShort
	case len(key) > MaxKey:
		return api.ErrLong
	case strings.Contains(key, "\x00"):
		return api.ErrByte
	}
	return api.OK
}

// border returns a text that divides the keys of parts as a bound divides the keys of their entries.
//
// No key has a byte 0: those with no more than what the bound has ahead of one are less, and so are their parts.
func border(bound string) string {
	if ahead, _, is := strings.Cut(bound, "\x00"); is {
		return ahead + "\x01"
	}
	return bound
}
