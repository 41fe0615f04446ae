package state_test

import (
	standard "crypto/sha256"
	"encoding/binary"
	"maps"
	"math/rand/v2"
	"slices"
	"strings"
	"testing"

	"replevin/api"
	"replevin/lineage"
	"replevin/object"
	"replevin/state"
)

// The model of a state is a map.
type model map[object.Name]string

func (m model) names() []object.Name {
	return slices.SortedFunc(maps.Keys(m), object.Compare)
}

func (m model) bytes() int {
	sum := 0
	for _, value := range m {
		sum += len(value)
	}
	return sum
}

func (m model) encoding() []byte {
	b := binary.AppendUvarint(nil, uint64(len(m)))
	for _, n := range m.names() {
		name, _ := n.Encode()
		for _, text := range []string{name, m[n]} {
			b = append(binary.AppendUvarint(b, uint64(len(text))), text...)
		}
	}
	return b
}

func (m model) diff(to model) []state.Change {
	all := maps.Clone(m)
	maps.Copy(all, to)
	var l []state.Change
	for _, n := range all.names() {
		before, was := m[n]
		after, is := to[n]
		if was != is || before != after {
			l = append(l, state.Change{Name: n, Value: after, Absent: !is})
		}
	}
	return l
}

// made returns a state that is made from the empty one, in an order that is not that of the names.
func made(t *testing.T, m model) *state.State {
	t.Helper()
	s := state.New()
	names := m.names()
	rand.New(rand.NewPCG(8, 8)).Shuffle(len(names), func(i, j int) { names[i], names[j] = names[j], names[i] })
	for _, n := range names {
		next, e := s.With(n, m[n])
		if e != api.OK {
			t.Fatalf("With(%s) = %d", n, e)
		}
		s = next
	}
	return s
}

// check compares all that can be asked of a state with the model.
func check(t *testing.T, s *state.State, m model) {
	t.Helper()
	names := m.names()
	if got := s.Names(); !slices.Equal(got, names) {
		t.Fatalf("Names = %v; want %v", got, names)
	}
	if s.Len() != len(m) || s.Bytes() != m.bytes() {
		t.Fatalf("Len, Bytes = %d, %d; want %d, %d", s.Len(), s.Bytes(), len(m), m.bytes())
	}
	for _, n := range append(someNames(), names...) {
		want, has := m[n]
		if value, is := s.Get(n); value != want || is != has {
			t.Fatalf("Get(%s) = %q, %t; want %q, %t", n, value, is, want, has)
		}
	}
	for kind := -1; kind <= object.NumKinds+1; kind++ {
		want := slices.DeleteFunc(slices.Clone(names), func(n object.Name) bool { return n.Kind != kind })
		if got := s.Kind(kind); !slices.Equal(got, want) {
			t.Fatalf("Kind(%d) = %v; want %v", kind, got, want)
		}
	}
	encoding := m.encoding()
	if got := s.Encode(); !slices.Equal(got, encoding) {
		t.Fatalf("Encode = %q; want %q", got, encoding)
	}
	if s.Digest() != standard.Sum256(encoding) {
		t.Fatalf("Digest = %x", s.Digest())
	}
}

// someNames returns valid names of all kinds, in no order.
func someNames() []object.Name {
	l := []object.Name{object.OfClock(), object.OfEpoch(), object.OfTable("")}
	for _, owner := range []lineage.Name{"10", "3.1", "9", "3", "3.10", "3.9"} {
		b := object.Birth{Maker: owner, Number: len(owner)}
		l = append(l, object.OfShell(owner), object.OfProcess(owner), object.OfRegisters(owner), object.OfPage(owner, 10), object.OfPage(owner, 9), object.OfCounter(owner), object.OfPending(owner),
			object.OfNode(b), object.OfBlock(b, 3), object.OfBlock(b, 20), object.OfEntry(b, "b"), object.OfEntry(b, "a"), object.OfListing(b), object.OfPipe(b), object.OfLock(b), object.OfOut(owner, 1, 500))
	}
	for _, text := range []string{"zoe", "ann", "bob"} {
		l = append(l, object.OfAccount(text), object.OfBox(text))
	}
	for _, number := range []int{200, 4, 30} {
		l = append(l, object.OfTerminal(number), object.OfPort(number))
	}
	return l
}

// wrongNames returns names that are not valid.
func wrongNames() []object.Name {
	return []object.Name{{}, {Kind: 21}, {Kind: -1}, object.OfProcess("01"), object.OfPage("1", 64), object.OfTerminal(-1), object.OfAccount(""), object.OfBox("a/b"), {Kind: object.Clock, Text: "x"}}
}

func someValue(random *rand.Rand) string {
	return strings.Repeat(string([]byte{byte(random.IntN(256))}), []int{0, 0, 1, 1, 2, 5, 130}[random.IntN(7)])
}
