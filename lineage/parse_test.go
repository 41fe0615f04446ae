package lineage_test

import (
	"math"
	"math/rand/v2"
	"slices"
	"testing"

	"replevin/api"
	"replevin/lineage"
)

// P3.1
func TestMake(t *testing.T) {
	for _, c := range []struct {
		ordinals []int
		name     lineage.Name
		want     api.Errno
	}{
		{nil, "", api.OK},
		{[]int{}, "", api.OK},
		{[]int{1}, "1", api.OK},
		{[]int{3, 1}, "3.1", api.OK},
		{[]int{10, 20, 300}, "10.20.300", api.OK},
		{[]int{999999}, "999999", api.OK},
		{[]int{1, 2, 3, 4, 5, 6, 7, 8}, "1.2.3.4.5.6.7.8", api.OK},
		{[]int{1, 2, 3, 4, 5, 6, 7, 8, 9}, "", api.ErrLimit},
		{[]int{0, 2, 3, 4, 5, 6, 7, 8, -9}, "", api.ErrLimit},
		{make([]int, 100), "", api.ErrLimit},
		{[]int{0}, "", api.ErrRange},
		{[]int{-1}, "", api.ErrRange},
		{[]int{1000000}, "", api.ErrRange},
		{[]int{math.MaxInt}, "", api.ErrRange},
		{[]int{math.MinInt}, "", api.ErrRange},
		{[]int{0, 1}, "", api.ErrRange},
		{[]int{1, 0}, "", api.ErrRange},
		{[]int{1, 2, 3, 4, 5, 6, 7, 1000000}, "", api.ErrRange},
	} {
		given := slices.Clone(c.ordinals)
		if n, e := lineage.Make(c.ordinals); n != c.name || e != c.want {
			t.Errorf("Make(%v) = %q, %d; want %q, %d", given, n, e, c.name, c.want)
		}
		if !slices.Equal(c.ordinals, given) {
			t.Errorf("Make changes %v to %v", given, c.ordinals)
		}
	}
	if lineage.MaxOrdinal != 999999 {
		t.Error(lineage.MaxOrdinal)
	}
}

// P3.1
func TestParseErrors(t *testing.T) {
	eight := "1.1.1.1.1.1.1.1"
	for _, c := range []struct {
		s    string
		at   int
		want api.Errno
	}{
		// At the beginning of an ordinal.
		{eight + ".1", 16, api.ErrLimit},
		{eight + ".", 16, api.ErrLimit},
		{eight + "..", 16, api.ErrLimit},
		{eight + ".0", 16, api.ErrLimit},
		{eight + ".x", 16, api.ErrLimit},
		{eight + ".1000000", 16, api.ErrLimit},
		{eight + ".1.1", 16, api.ErrLimit},
		{"12345.1.1.1.1.1.1.123456.7", 25, api.ErrLimit},
		{"1.", 2, api.ErrShort},
		{"12.34.", 6, api.ErrShort},
		{eight[:13] + ".", 14, api.ErrShort},
		{".", 0, api.ErrByte},
		{".1", 0, api.ErrByte},
		{"3..1", 2, api.ErrByte},
		{"x", 0, api.ErrByte},
		{"-1", 0, api.ErrByte},
		{"+1", 0, api.ErrByte},
		{" 1", 0, api.ErrByte},
		{"1. 2", 2, api.ErrByte},
		{"\x00", 0, api.ErrByte},
		{"/", 0, api.ErrByte},
		{":", 0, api.ErrByte},
		{"1.\uff11", 2, api.ErrByte},
		{"0", 0, api.ErrFormat},
		{"3.01", 2, api.ErrFormat},
		{"0.1", 0, api.ErrFormat},
		{"0x", 0, api.ErrFormat},
		{"0000000", 0, api.ErrFormat},
		{"1.00000000", 2, api.ErrFormat},
		{"1000000", 0, api.ErrRange},
		{"1.1000000", 2, api.ErrRange},
		{"9999999.1", 0, api.ErrRange},
		{"1234567x", 0, api.ErrRange},
		{"12.34.5678901..", 6, api.ErrRange},
		{"1.99999999999999999999999999", 2, api.ErrRange},
		// After an ordinal.
		{"1x", 1, api.ErrByte},
		{"1 ", 1, api.ErrByte},
		{"1,2", 1, api.ErrByte},
		{"999999x", 6, api.ErrByte},
		{"12.34/5", 5, api.ErrByte},
		{"12.34:5", 5, api.ErrByte},
		{eight + "x", 15, api.ErrByte},
		{"1\x00", 1, api.ErrByte},
		{"1\xff", 1, api.ErrByte},
		// The first error counts.
		{"1x.0", 1, api.ErrByte},
		{"0.x", 0, api.ErrFormat},
		{"1.2.x.1.1.1.1.1.1", 4, api.ErrByte},
		{"1.1000000.1.1.1.1.1.1.1", 2, api.ErrRange},
	} {
		n, at, e := lineage.Parse(c.s)
		if n != "" || at != c.at || e != c.want {
			t.Errorf("Parse(%q) = %q, %d, %d; want %d, %d", c.s, n, at, e, c.at, c.want)
		}
	}
}

// P3.1
func TestParse(t *testing.T) {
	for _, n := range someNames() {
		if got, at, e := lineage.Parse(string(n)); got != n || at != 0 || e != api.OK || !lineage.Valid(n) {
			t.Errorf("Parse(%q) = %q, %d, %d", n, got, at, e)
		}
	}
	for _, n := range someTexts() {
		if got, _, e := lineage.Parse(string(n)); got != "" || e == api.OK || lineage.Valid(n) {
			t.Errorf("Parse(%q) = %q, %d", n, got, e)
		}
	}
}

// P3.1, P3.6: the names that Parse and Valid accept are those that Make makes.
func TestParseOfAnyTexts(t *testing.T) {
	random := rand.New(rand.NewPCG(1, 1))
	accepted := 0
	for range 100000 {
		b := make([]byte, random.IntN(18))
		for i := range b {
			b[i] = "0123456789...19x"[random.IntN(16)]
			if i%2 == 1 && random.IntN(3) > 0 {
				b[i] = '.'
			}
		}
		s := string(b)
		ordinals, valid := model(lineage.Name(s))
		n, at, e := lineage.Parse(s)
		if valid != (e == api.OK) || valid != lineage.Valid(lineage.Name(s)) {
			t.Fatalf("Parse(%q) = %q, %d, %d", s, n, at, e)
		}
		if !valid {
			continue
		}
		accepted++
		if made, _ := lineage.Make(ordinals); string(n) != s || made != n || at != 0 {
			t.Fatalf("Parse(%q) = %q, Make(%v) = %q", s, n, ordinals, made)
		}
	}
	if accepted < 1000 {
		t.Errorf("only %d texts were accepted", accepted)
	}
}

// P3.2
func TestOrdinals(t *testing.T) {
	for _, n := range allTexts() {
		want, _ := model(n)
		if len(want) > api.MaxLineage {
			want = nil
		}
		got := n.Ordinals()
		last := 0
		if len(want) > 0 {
			last = want[len(want)-1]
		}
		if !slices.Equal(got, want) || n.Depth() != len(want) || n.Last() != last {
			t.Errorf("%q has the ordinals %v, the depth %d and the last ordinal %d; want %v", n, got, n.Depth(), n.Last(), want)
		}
	}
	n := lineage.Name("3.10.2")
	a, b := n.Ordinals(), n.Ordinals()
	a[0] = 77
	if b[0] != 3 || n.Ordinals()[0] != 3 {
		t.Error("two results of Ordinals share memory")
	}
}

// P3.2
func TestChild(t *testing.T) {
	for _, c := range []struct {
		n       lineage.Name
		ordinal int
		child   lineage.Name
		want    api.Errno
	}{
		{"", 4, "4", api.OK},
		{"3.1", 2, "3.1.2", api.OK},
		{"3", 1, "3.1", api.OK},
		{"3", 999999, "3.999999", api.OK},
		{"1.1.1.1.1.1.1", 12, "1.1.1.1.1.1.1.12", api.OK},
		{"1.1.1.1.1.1.1.1", 1, "", api.ErrLimit},
		{"1.1.1.1.1.1.1.1", 0, "", api.ErrRange},
		{"1.1.1.1.1.1.1.1", 1000000, "", api.ErrRange},
		{"3", 0, "", api.ErrRange},
		{"3", -1, "", api.ErrRange},
		{"", 1000000, "", api.ErrRange},
		{"", math.MaxInt, "", api.ErrRange},
		{"", math.MinInt, "", api.ErrRange},
		{"x", 1, "", api.ErrName},
		{"x", 0, "", api.ErrName},
		{"3.", 1, "", api.ErrName},
		{"3.01", 1, "", api.ErrName},
		{"1.1.1.1.1.1.1.1.1", 1, "", api.ErrName},
		{"1.1.1.1.1.1.1.1.1", 0, "", api.ErrName},
	} {
		if child, e := c.n.Child(c.ordinal); child != c.child || e != c.want {
			t.Errorf("Child(%q, %d) = %q, %d; want %q, %d", c.n, c.ordinal, child, e, c.child, c.want)
		}
	}
}

// P3.2
func TestParentAndRoot(t *testing.T) {
	for n, want := range map[lineage.Name]lineage.Name{"3.1": "3", "3.1.2": "3.1", "3": "", "999999.10": "999999", "1.1.1.1.1.1.1.1": "1.1.1.1.1.1.1"} {
		if parent, ok := n.Parent(); parent != want || !ok {
			t.Errorf("Parent(%q) = %q, %t; want %q", n, parent, ok, want)
		}
	}
	for n, want := range map[lineage.Name]lineage.Name{"": "", "3": "3", "3.1": "3", "31.2.1": "31", "999999.10": "999999", "12.1.1.1.1.1.1.1": "12"} {
		if root := n.Root(); root != want {
			t.Errorf("Root(%q) = %q; want %q", n, root, want)
		}
	}
	for _, n := range append(someTexts(), "") {
		parent, ok := n.Parent()
		if parent != "" || ok || n.Root() != "" {
			t.Errorf("Parent(%q) = %q, %t, Root = %q", n, parent, ok, n.Root())
		}
	}
	for _, n := range someNames() {
		if n.Depth() == api.MaxLineage {
			continue
		}
		child, _ := n.Child(7)
		if parent, ok := child.Parent(); parent != n || !ok || child.Last() != 7 || child.Depth() != n.Depth()+1 {
			t.Errorf("the child %q of %q has the parent %q", child, n, parent)
		}
	}
}
