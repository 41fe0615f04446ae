package object_test

import (
	"math"
	"strings"
	"testing"

	"replevin/api"
	"replevin/lineage"
	"replevin/object"
)

func TestConstants(t *testing.T) {
	if object.NumKinds != 20 || object.MaxNumber != 1<<30 {
		t.Error(object.NumKinds, object.MaxNumber)
	}
	for i, k := range []int{
		object.Process, object.Registers, object.Page, object.Table, object.Counter, object.Pending, object.Node, object.Block, object.Entry, object.Listing,
		object.Pipe, object.Lock, object.Terminal, object.Account, object.Clock, object.Port, object.Box, object.Out, object.Shell, object.Epoch,
	} {
		if k != i+1 {
			t.Errorf("the kind %d is %d", i+1, k)
		}
	}
}

// P4.1
func TestCheckOfBirths(t *testing.T) {
	for _, c := range []struct {
		b    object.Birth
		want api.Errno
	}{
		{object.Birth{}, api.OK},
		{object.Birth{Maker: "3.1", Number: 2}, api.OK},
		{object.Birth{Maker: "3.1", Number: 1 << 30}, api.OK},
		{object.Birth{Maker: "3.1", Number: 1<<30 + 1}, api.ErrRange},
		{object.Birth{Number: -1}, api.ErrRange},
		{object.Birth{Number: math.MinInt}, api.ErrRange},
		{object.Birth{Number: math.MaxInt}, api.ErrRange},
		{object.Birth{Maker: "0"}, api.ErrName},
		{object.Birth{Maker: "3.01", Number: 1}, api.ErrName},
		{object.Birth{Maker: "x", Number: -1}, api.ErrName},
		{object.Birth{Maker: "1.1.1.1.1.1.1.1.1", Number: 1<<30 + 1}, api.ErrName},
	} {
		if e := c.b.Check(); e != c.want {
			t.Errorf("Check of %v = %d; want %d", c.b, e, c.want)
		}
	}
}

// P4.1
func TestCheckOfNames(t *testing.T) {
	for _, n := range allNames() {
		if e, want := n.Check(), modelCheck(n); e != want {
			t.Errorf("Check of %#v = %d; want %d", n, e, want)
		}
	}
}

// P4.1: of several errors the first one is returned.
func TestOrderOfErrors(t *testing.T) {
	for _, c := range []struct {
		n    object.Name
		want api.Errno
	}{
		{object.Name{}, api.ErrKind},
		{object.Name{Kind: 21, Owner: "x", Number: -1, Index: -1, Text: "/"}, api.ErrKind},
		{object.Name{Kind: math.MinInt}, api.ErrKind},
		{object.Name{Kind: math.MaxInt}, api.ErrKind},
		{object.Name{Kind: object.Process, Owner: "01", Number: 1}, api.ErrArgument},
		{object.Name{Kind: object.Block, Owner: "01", Number: -1, Index: 64, Text: "a"}, api.ErrArgument},
		{object.Name{Kind: object.Entry, Owner: "01", Number: -1, Index: 1, Text: "/"}, api.ErrArgument},
		{object.Name{Kind: object.Port, Owner: "1", Number: -1}, api.ErrArgument},
		{object.Name{Kind: object.Port, Number: -1, Index: 1}, api.ErrArgument},
		{object.Name{Kind: object.Account, Owner: "x"}, api.ErrArgument},
		{object.Name{Kind: object.Clock, Text: " "}, api.ErrArgument},
		{object.Name{Kind: object.Entry, Owner: "01", Number: -1, Text: "/"}, api.ErrName},
		{object.Name{Kind: object.Block, Owner: "01", Number: -1, Index: 64}, api.ErrName},
		{object.Name{Kind: object.Entry, Owner: "1", Number: -1, Text: "/"}, api.ErrRange},
		{object.Name{Kind: object.Entry, Owner: "1", Number: 1, Text: "/"}, api.ErrName},
		{object.Name{Kind: object.Page, Owner: "1", Index: math.MinInt}, api.ErrRange},
		{object.Name{Kind: object.Out, Owner: "1", Number: math.MaxInt}, api.ErrRange},
	} {
		if e := c.n.Check(); e != c.want {
			t.Errorf("Check of %#v = %d; want %d", c.n, e, c.want)
		}
	}
}

// P4.1
func TestWord(t *testing.T) {
	for b := range 256 {
		want := b >= 33 && b <= 126 && b != 47
		for _, s := range []string{string([]byte{byte(b)}), "a" + string([]byte{byte(b)}), string([]byte{byte(b)}) + "a", "a" + string([]byte{byte(b)}) + "a"} {
			if object.Word(s) != want {
				t.Errorf("Word(%q) = %t", s, !want)
			}
		}
	}
	for length, want := range map[int]bool{0: false, 1: true, 2: true, 31: true, 32: true, 33: false, 100: false} {
		if object.Word(strings.Repeat("w", length)) != want {
			t.Errorf("Word of %d bytes = %t", length, !want)
		}
	}
	if object.Word("\u00e9") || object.Word(strings.Repeat("w", 31)+" ") || !object.Word("..") {
		t.Error("Word")
	}
}

// P4.2: nothing is checked.
func TestOf(t *testing.T) {
	b := object.Birth{Maker: "3.1", Number: 2}
	wrong := object.Birth{Maker: "x", Number: -2}
	for _, c := range []struct{ got, want object.Name }{
		{object.OfProcess("3.1"), object.Name{Kind: 1, Owner: "3.1"}},
		{object.OfRegisters("3.1"), object.Name{Kind: 2, Owner: "3.1"}},
		{object.OfPage("3.1", 5), object.Name{Kind: 3, Owner: "3.1", Index: 5}},
		{object.OfTable("3.1"), object.Name{Kind: 4, Owner: "3.1"}},
		{object.OfCounter("3.1"), object.Name{Kind: 5, Owner: "3.1"}},
		{object.OfPending("3.1"), object.Name{Kind: 6, Owner: "3.1"}},
		{object.OfNode(b), object.Name{Kind: 7, Owner: "3.1", Number: 2}},
		{object.OfBlock(b, 5), object.Name{Kind: 8, Owner: "3.1", Number: 2, Index: 5}},
		{object.OfEntry(b, "t"), object.Name{Kind: 9, Owner: "3.1", Number: 2, Text: "t"}},
		{object.OfListing(b), object.Name{Kind: 10, Owner: "3.1", Number: 2}},
		{object.OfPipe(b), object.Name{Kind: 11, Owner: "3.1", Number: 2}},
		{object.OfLock(b), object.Name{Kind: 12, Owner: "3.1", Number: 2}},
		{object.OfTerminal(7), object.Name{Kind: 13, Number: 7}},
		{object.OfAccount("t"), object.Name{Kind: 14, Text: "t"}},
		{object.OfClock(), object.Name{Kind: 15}},
		{object.OfPort(7), object.Name{Kind: 16, Number: 7}},
		{object.OfBox("t"), object.Name{Kind: 17, Text: "t"}},
		{object.OfOut("3.1", 2, 9), object.Name{Kind: 18, Owner: "3.1", Number: 2, Index: 9}},
		{object.OfShell("3.1"), object.Name{Kind: 19, Owner: "3.1"}},
		{object.OfEpoch(), object.Name{Kind: 20}},
		{object.OfProcess("x"), object.Name{Kind: 1, Owner: "x"}},
		{object.OfPage("x", -5), object.Name{Kind: 3, Owner: "x", Index: -5}},
		{object.OfNode(wrong), object.Name{Kind: 7, Owner: "x", Number: -2}},
		{object.OfBlock(wrong, 64), object.Name{Kind: 8, Owner: "x", Number: -2, Index: 64}},
		{object.OfEntry(wrong, "a/b"), object.Name{Kind: 9, Owner: "x", Number: -2, Text: "a/b"}},
		{object.OfTerminal(-7), object.Name{Kind: 13, Number: -7}},
		{object.OfAccount(""), object.Name{Kind: 14}},
		{object.OfPort(-7), object.Name{Kind: 16, Number: -7}},
		{object.OfBox("a b"), object.Name{Kind: 17, Text: "a b"}},
		{object.OfOut("x", -2, -9), object.Name{Kind: 18, Owner: "x", Number: -2, Index: -9}},
	} {
		if c.got != c.want {
			t.Errorf("%#v; want %#v", c.got, c.want)
		}
	}
}

// P4.3: the kind alone decides.
func TestBirth(t *testing.T) {
	for _, n := range allNames() {
		b, is := n.Birth()
		if n.Kind >= 7 && n.Kind <= 12 {
			if b != (object.Birth{Maker: n.Owner, Number: n.Number}) || !is {
				t.Errorf("Birth of %#v = %v, %t", n, b, is)
			}
		} else if b != (object.Birth{}) || is {
			t.Errorf("Birth of %#v = %v, %t", n, b, is)
		}
	}
}

// P4.3: the kind and the owner alone decide.
func TestWithin(t *testing.T) {
	for _, n := range allNames() {
		for _, owner := range []lineage.Name{"", "3", "3.1", "3.1.1", "31", "999999.1", "0", "01", "x", "3."} {
			want := n.Kind >= 1 && n.Kind <= 20 && kinds[n.Kind].uses("O") && lineage.Within(n.Owner, owner)
			if n.Within(owner) != want {
				t.Errorf("%#v is within %q: %t", n, owner, !want)
			}
		}
	}
	block := object.OfBlock(object.Birth{Maker: "3.1", Number: -1}, -1)
	if !block.Within("") || !block.Within("3") || !block.Within("3.1") || block.Within("3.1.1") || block.Within("1") || object.OfClock().Within("") {
		t.Error("Within")
	}
}
