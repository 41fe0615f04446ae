package lineage_test

import (
	"math/rand/v2"
	"slices"
	"testing"

	"replevin/lineage"
)

// P3.3
func TestWithin(t *testing.T) {
	for _, a := range allTexts() {
		for _, b := range allTexts() {
			if got, want := lineage.Within(a, b), modelWithin(a, b); got != want {
				t.Errorf("Within(%q, %q) = %t", a, b, got)
			}
		}
	}
	if !lineage.Within("3.1", "3") || !lineage.Within("3", "3") || !lineage.Within("3", "") || lineage.Within("31", "3") || lineage.Within("3", "3.1") || lineage.Within("x", "") || lineage.Within("x", "x") {
		t.Error("Within")
	}
}

// P3.3
func TestCommon(t *testing.T) {
	for _, c := range []struct{ a, b, want lineage.Name }{
		{"3.1.2", "3.10", "3"}, {"3.1", "3.1.5", "3.1"}, {"3.1.5", "3.1", "3.1"}, {"1", "2", ""}, {"12", "1", ""}, {"1.2", "12", ""},
		{"5.6", "5.6", "5.6"}, {"", "5.6", ""}, {"", "", ""}, {"10.1.2", "10.1.20", "10.1"}, {"x", "x", ""}, {"3.1", "3.x", ""}, {"3.", "3", ""},
		{"1.1.1.1.1.1.1.1", "1.1.1.1.1.1.1.1.1", ""}, {"1.1.1.1.1.1.1.1", "1.1.1.1.1.1.1.1", "1.1.1.1.1.1.1.1"}, {"1.2.3", "4.2.3", ""},
	} {
		if got := lineage.Common(c.a, c.b); got != c.want {
			t.Errorf("Common(%q, %q) = %q; want %q", c.a, c.b, got, c.want)
		}
	}
	// The longest name that both are within.
	for _, a := range someNames() {
		for _, b := range someNames() {
			c := lineage.Common(a, b)
			if c != lineage.Common(b, a) || !modelWithin(a, c) || !modelWithin(b, c) {
				t.Errorf("Common(%q, %q) = %q", a, b, c)
			}
			for _, longer := range append(someNames(), a, b) {
				if modelWithin(a, longer) && modelWithin(b, longer) && !modelWithin(c, longer) {
					t.Errorf("Common(%q, %q) = %q, but both are within %q", a, b, c, longer)
				}
			}
		}
	}
}

// P3.4
func TestCompare(t *testing.T) {
	for _, a := range allTexts() {
		for _, b := range allTexts() {
			if got, want := lineage.Compare(a, b), modelCompare(a, b); got != want {
				t.Errorf("Compare(%q, %q) = %d; want %d", a, b, got, want)
			}
		}
	}
	ordered := []lineage.Name{"", "2", "2.1", "2.1.1", "2.2", "2.10", "3.2", "3.10", "10", "+", "0", "01", "1000000", "2.", "2.01", "A", "x", "\xff"}
	for i, a := range ordered {
		for j, b := range ordered {
			want := 0
			if i < j {
				want = -1
			} else if i > j {
				want = 1
			}
			if got := lineage.Compare(a, b); got != want {
				t.Errorf("Compare(%q, %q) = %d; want %d", a, b, got, want)
			}
		}
	}
}

// P3.4
func TestSort(t *testing.T) {
	random := rand.New(rand.NewPCG(2, 2))
	want := allTexts()
	slices.SortFunc(want, modelCompare)
	for range 100 {
		l := append(allTexts(), allTexts()[:random.IntN(len(want))]...)
		random.Shuffle(len(l), func(i, j int) { l[i], l[j] = l[j], l[i] })
		given := slices.Clone(l)
		if got := lineage.Sort(l); !slices.Equal(got, want) {
			t.Fatalf("Sort(%q) = %q", given, got)
		}
		if !slices.Equal(l, given) {
			t.Fatalf("Sort changes %q to %q", given, l)
		}
	}
	if l := lineage.Sort(nil); len(l) != 0 {
		t.Errorf("Sort of nothing = %q", l)
	}
	l := lineage.Sort([]lineage.Name{"10", "2.1", "2", "x", "2.1", "", "2.1.1", "x", "01"})
	if !slices.Equal(l, []lineage.Name{"", "2", "2.1", "2.1.1", "10", "01", "x"}) {
		t.Errorf("Sort = %q", l)
	}
}

// P3.4
func TestTops(t *testing.T) {
	for _, c := range []struct{ l, want []lineage.Name }{
		{nil, nil},
		{[]lineage.Name{"10", "2.1", "2", "3.1", "3.2"}, []lineage.Name{"2", "3.1", "3.2", "10"}},
		{[]lineage.Name{"2.1.1", "2.1", "2", "2.1", "2"}, []lineage.Name{"2"}},
		{[]lineage.Name{"2.1", "21", "2.10", "2.1.5", "2.10.1"}, []lineage.Name{"2.1", "2.10", "21"}},
		{[]lineage.Name{"3", "x", "3.1", "x", "3.x", "4", "01"}, []lineage.Name{"3", "4", "01", "3.x", "x"}},
		{[]lineage.Name{"3", "", "x"}, []lineage.Name{"", "x"}},
		{[]lineage.Name{""}, []lineage.Name{""}},
		{[]lineage.Name{"x", "x.1", "x"}, []lineage.Name{"x", "x.1"}},
		{[]lineage.Name{"1", "1.1.1.1.1.1.1.1.1"}, []lineage.Name{"1", "1.1.1.1.1.1.1.1.1"}},
	} {
		given := slices.Clone(c.l)
		if got := lineage.Tops(c.l); !slices.Equal(got, c.want) {
			t.Errorf("Tops(%q) = %q; want %q", given, got, c.want)
		}
		if !slices.Equal(c.l, given) {
			t.Errorf("Tops changes %q to %q", given, c.l)
		}
	}
}

// P3.4
func TestCovers(t *testing.T) {
	for _, c := range []struct {
		l    []lineage.Name
		n    lineage.Name
		want bool
	}{
		{[]lineage.Name{"5", "2"}, "2.9.9", true},
		{[]lineage.Name{"5", "2"}, "5", true},
		{[]lineage.Name{"5", "2"}, "3", false},
		{[]lineage.Name{"5", "2"}, "25", false},
		{[]lineage.Name{"5", "2"}, "", false},
		{[]lineage.Name{"2.9"}, "2", false},
		{[]lineage.Name{""}, "2", true},
		{[]lineage.Name{""}, "", true},
		{[]lineage.Name{"", "x"}, "x", false},
		{[]lineage.Name{"x", "2"}, "2.1", true},
		{[]lineage.Name{"2.", "x"}, "2.1", false},
		{nil, "2", false},
		{nil, "", false},
	} {
		given := slices.Clone(c.l)
		if got := lineage.Covers(c.l, c.n); got != c.want {
			t.Errorf("Covers(%q, %q) = %t", c.l, c.n, got)
		}
		if !slices.Equal(c.l, given) {
			t.Errorf("Covers changes %q to %q", given, c.l)
		}
	}
}

// P3.6
func TestWithinIsAPartialOrder(t *testing.T) {
	names := someNames()
	for _, a := range names {
		if !lineage.Within(a, a) || !lineage.Within(a, "") {
			t.Errorf("%q is not within itself and the kernel", a)
		}
		for _, b := range names {
			if a != b && lineage.Within(a, b) && lineage.Within(b, a) {
				t.Errorf("%q and %q are within one another", a, b)
			}
			for _, c := range names {
				if lineage.Within(a, b) && lineage.Within(b, c) && !lineage.Within(a, c) {
					t.Errorf("%q is within %q, which is within %q", a, b, c)
				}
			}
		}
	}
}

// P3.6
func TestNamesWithinANameAreAdjacent(t *testing.T) {
	sorted := lineage.Sort(someNames())
	for i, n := range sorted {
		within := true
		for j, other := range sorted {
			is := lineage.Within(other, n)
			if j < i && is || j >= i && is && !within {
				t.Errorf("%q is within %q, but others are in between", other, n)
			}
			within = is || j < i
		}
	}
}

// P3.6
func TestTopsCoverTheSame(t *testing.T) {
	random := rand.New(rand.NewPCG(3, 3))
	texts := allTexts()
	for range 500 {
		random.Shuffle(len(texts), func(i, j int) { texts[i], texts[j] = texts[j], texts[i] })
		l := texts[:random.IntN(12)]
		tops := lineage.Tops(l)
		for _, n := range allTexts() {
			if lineage.Covers(l, n) != lineage.Covers(tops, n) {
				t.Fatalf("%q and its tops %q do not both cover %q", l, tops, n)
			}
		}
		for i, a := range tops {
			for j, b := range tops {
				if i != j && lineage.Within(a, b) {
					t.Fatalf("the tops %q and %q of %q", a, b, l)
				}
			}
		}
	}
}
