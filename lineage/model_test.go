package lineage_test

import (
	"strconv"
	"strings"

	"replevin/lineage"
)

// The model: names are lists of ordinals, which are read and compared plainly.

// model returns the ordinals of a text, or false if it is not a name.
func model(n lineage.Name) ([]int, bool) {
	if n == "" {
		return nil, true
	}
	var ordinals []int
	for _, s := range strings.Split(string(n), ".") {
		ordinal, err := strconv.Atoi(s)
		if err != nil || strconv.Itoa(ordinal) != s || ordinal < 1 || ordinal > 999999 {
			return nil, false
		}
		ordinals = append(ordinals, ordinal)
	}
	return ordinals, len(ordinals) <= 8
}

func modelWithin(n, ancestor lineage.Name) bool {
	a, ok := model(n)
	b, both := model(ancestor)
	if !ok || !both || len(a) < len(b) {
		return false
	}
	for i := range b {
		if a[i] != b[i] {
			return false
		}
	}
	return true
}

func modelCompare(a, b lineage.Name) int {
	l, ok := model(a)
	o, both := model(b)
	switch {
	case ok != both && ok:
		return -1
	case ok != both:
		return 1
	case !ok:
		return strings.Compare(string(a), string(b))
	}
	for i := range min(len(l), len(o)) {
		if l[i] != o[i] {
			if l[i] < o[i] {
				return -1
			}
			return 1
		}
	}
	switch {
	case len(l) < len(o):
		return -1
	case len(l) > len(o):
		return 1
	}
	return 0
}

// someNames returns names of all depths, in no order.
func someNames() []lineage.Name {
	return []lineage.Name{
		"3.10", "3", "", "1", "2", "10", "12", "3.2", "3.1", "3.1.2", "3.1.2.1", "3.10.2", "31", "31.1", "1.3", "1.1", "1.1.1", "1.10", "1.9",
		"1.1.1.1.1.1.1.1", "1.1.1.1.1.1.1", "1.1.1.1.1.1.1.2", "1.1.1.1.1.1.2", "2.1.1.1.1.1.1.1", "999999", "999999.999999", "99999", "100000",
		"999999.999999.999999.999999.999999.999999.999999.999999", "3.999999",
	}
}

// someTexts returns texts that are not names, in no order.
func someTexts() []lineage.Name {
	return []lineage.Name{
		"x", "0", "01", "3.0", "3.01", "3.", ".3", ".", "3..1", "3.x", "3 ", " 3", "+3", "-3", "3.-1", "1000000", "3.1000000", "0000003", "3,1",
		"1.1.1.1.1.1.1.1.1", "1.1.1.1.1.1.1.1.", "1.1.1.1.1.1.1.1.x", "\x00", "\xff", "3.1\x00", "3\n", "\u0663", "\uff13", "3.1.", "A", "a", "99999999999999999999999", "18446744073709551617",
	}
}

func allTexts() []lineage.Name { return append(someNames(), someTexts()...) }
