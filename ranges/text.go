package ranges

import (
	"strconv"
	"strings"

	"replevin/api"
)

// maxDigits is the number of digits of MaxPosition.
const maxDigits = 13

// Text returns the text of a set, and Parse the set of a text, or the offset of the first error and its kind.
func (s Set) Text() string {
	var items []string
	for _, r := range s.list {
		items = append(items, strconv.Itoa(r.From)+"+"+strconv.Itoa(r.To-r.From))
	}
	return strings.Join(items, " ")
}

func Parse(t string) (s Set, at int, e api.Errno) {
	if t == "" {
		return Set{}, 0, api.OK
	}
	var list []Range
	for item := range strings.SplitSeq(t, " ") {
		r, e := rangeOf(item, list)
		if e != api.OK {
			return Set{}, at, e
		}
		list = append(list, r)
		at += len(item) + 1
	}
	return Set{list}, 0, api.OK
}

// rangeOf returns the range of an item that follows the ranges before.
func rangeOf(item string, before []Range) (Range, api.Errno) {
	count := len(before)
	if count == MaxRanges {
		return Range{}, api.ErrLimit
	}
	first, second, _ := strings.Cut(item, "+")
	from, isFrom := number(first)
	length, isLength := number(second)
	switch {
	case !isFrom || !isLength:
		return Range{}, api.ErrFormat
	case length == 0 || from+length > MaxPosition:
		return Range{}, api.ErrRange
	case count > 0 && from <= before[count-1].To:
		return Range{}, api.ErrSequence
	}
	return Range{from, from + length}, api.OK
}

func number(t string) (int, bool) {
	if t == "" || len(t) > maxDigits || t[0] == '0' && t != "0" {
		return 0, false
	}
	n := 0
	for _, b := range []byte(t) {
		if b < '0' || b > '9' {
			return 0, false
		}
		n = 10*n + int(b-'0')
	}
	return n, true
}
