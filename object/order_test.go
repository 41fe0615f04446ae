package object_test

import (
	"cmp"
	"math/rand/v2"
	"slices"
	"strings"
	"testing"

	"replevin/lineage"
	"replevin/object"
)

func modelCompare(a, b object.Name) int {
	return cmp.Or(cmp.Compare(a.Kind, b.Kind), lineage.Compare(a.Owner, b.Owner), cmp.Compare(a.Number, b.Number), cmp.Compare(a.Index, b.Index), strings.Compare(a.Text, b.Text))
}

// P4.4
func TestCompare(t *testing.T) {
	b := object.Birth{Maker: "3.9", Number: 2}
	ordered := []object.Name{
		{Kind: -1, Owner: "9"}, {}, {Text: "z"},
		object.OfProcess(""), object.OfProcess("3"), object.OfProcess("3.9"), object.OfProcess("3.10"), object.OfProcess("20"), object.OfProcess("0"), object.OfProcess("x"),
		object.OfPage("3", 9), object.OfPage("3", 10), object.OfPage("3.1", 1), object.OfPage("10", 0),
		object.OfBlock(object.Birth{Maker: "3", Number: 10}, 0), object.OfBlock(b, 9), object.OfBlock(b, 10), object.OfBlock(object.Birth{Maker: "3.9", Number: 10}, 0),
		object.OfEntry(b, ""), object.OfEntry(b, "!"), object.OfEntry(b, "B"), object.OfEntry(b, "a"), object.OfEntry(b, "a.b"), object.OfEntry(b, "aa"), object.OfEntry(b, "\xff"),
		object.OfTerminal(-1), object.OfTerminal(9), object.OfTerminal(10), {Kind: object.Terminal, Number: 10, Index: 1}, {Kind: object.Terminal, Number: 10, Index: 1, Text: "a"},
		object.OfAccount("zoe"), object.OfClock(), {Kind: 30},
	}
	for i, a := range ordered {
		for j, b := range ordered {
			if got := object.Compare(a, b); got != cmp.Compare(i, j) {
				t.Errorf("Compare(%#v, %#v) = %d", a, b, got)
			}
		}
	}
}

// P4.4
func TestCompareOfAnyNames(t *testing.T) {
	random := rand.New(rand.NewPCG(1, 1))
	names := allNames()
	for range 200000 {
		// Names that have much in common, because the later fields matter only then.
		a := names[random.IntN(len(names))]
		b := a
		other := names[random.IntN(len(names))]
		for field := range 5 {
			if random.IntN(4) > 0 {
				continue
			}
			switch field {
			case 0:
				b.Kind = other.Kind
			case 1:
				b.Owner = other.Owner
			case 2:
				b.Number = other.Number
			case 3:
				b.Index = other.Index
			case 4:
				b.Text = other.Text
			}
		}
		if got, want := object.Compare(a, b), modelCompare(a, b); got != want || (got == 0) != (a == b) {
			t.Fatalf("Compare(%#v, %#v) = %d; want %d", a, b, got, want)
		}
	}
}

// P4.4, P4.7
func TestSort(t *testing.T) {
	random := rand.New(rand.NewPCG(2, 2))
	names := allNames()
	for range 200 {
		var l []object.Name
		for range random.IntN(60) {
			l = append(l, names[random.IntN(len(names))])
		}
		for range random.IntN(20) {
			if len(l) > 0 {
				l = append(l, l[random.IntN(len(l))])
			}
		}
		given := slices.Clone(l)
		got := object.Sort(l)
		if !slices.Equal(l, given) {
			t.Fatal("Sort changes its argument")
		}
		for i := range got {
			if i > 0 && modelCompare(got[i-1], got[i]) >= 0 {
				t.Fatalf("Sort has %#v before %#v", got[i-1], got[i])
			}
			if !slices.Contains(l, got[i]) {
				t.Fatalf("Sort has %#v, which was not given", got[i])
			}
		}
		for _, n := range l {
			if !slices.Contains(got, n) {
				t.Fatalf("Sort has lost %#v", n)
			}
		}
	}
	if l := object.Sort(nil); len(l) != 0 {
		t.Errorf("Sort of nothing = %v", l)
	}
	sorted := []object.Name{object.OfProcess("2"), object.OfClock()}
	object.Sort(sorted)[0].Text = "changed"
	if sorted[0] != object.OfProcess("2") {
		t.Error("the result of Sort shares memory with its argument")
	}
}
