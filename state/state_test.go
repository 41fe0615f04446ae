package state_test

import (
	"maps"
	"math/rand/v2"
	"slices"
	"strings"
	"testing"

	"replevin/api"
	"replevin/object"
	"replevin/state"
)

// P5.1
func TestNew(t *testing.T) {
	check(t, state.New(), model{})
	check(t, &state.State{}, model{})
	if !state.New().Equal(state.New()) || !state.New().Equal(&state.State{}) {
		t.Error("two empty states are not equal")
	}
}

// P5.1: an empty value is not the same as absent.
func TestEmptyValue(t *testing.T) {
	s := made(t, model{object.OfClock(): ""})
	check(t, s, model{object.OfClock(): ""})
	if s.Equal(state.New()) || state.New().Equal(s) {
		t.Error("a state with an empty value is equal to the empty one")
	}
}

// P5.1: a name that is not valid is absent.
func TestGetOfWrongNames(t *testing.T) {
	s := made(t, model{object.OfClock(): "a", object.OfProcess("1"): "b"})
	for _, n := range wrongNames() {
		if value, is := s.Get(n); value != "" || is {
			t.Errorf("Get(%#v) = %q, %t", n, value, is)
		}
	}
}

// P5.1, P5.2, P5.3, P5.5, P5.7: each state that was made is checked again at the end.
func TestAgainstModel(t *testing.T) {
	random := rand.New(rand.NewPCG(1, 1))
	names := someNames()
	for range 20 {
		states, models := []*state.State{state.New()}, []model{{}}
		for range 150 {
			// Mostly the last state is changed, sometimes an older one.
			at := len(states) - 1
			if random.IntN(10) == 0 {
				at = random.IntN(len(states))
			}
			n, value := names[random.IntN(len(names))], someValue(random)
			m := maps.Clone(models[at])
			var s *state.State
			var e api.Errno
			if random.IntN(3) == 0 {
				delete(m, n)
				s, e = states[at].Without(n)
			} else {
				m[n] = value
				s, e = states[at].With(n, value)
			}
			if e != api.OK {
				t.Fatalf("%s: %d", n, e)
			}
			states, models = append(states, s), append(models, m)
		}
		for i := range states {
			check(t, states[i], models[i])
		}
	}
}

// P5.2
func TestWithAndWithout(t *testing.T) {
	clock := object.OfClock()
	first, e := state.New().With(clock, "a")
	if e != api.OK {
		t.Fatal(e)
	}
	second, e := first.With(clock, "bc")
	if e != api.OK {
		t.Fatal(e)
	}
	same, e := second.With(clock, "bc")
	if e != api.OK || !same.Equal(second) {
		t.Error(e)
	}
	empty, e := second.Without(clock)
	if e != api.OK || !empty.Equal(state.New()) {
		t.Error(e)
	}
	again, e := empty.Without(clock)
	if e != api.OK || !again.Equal(state.New()) {
		t.Error(e)
	}
	check(t, first, model{clock: "a"})
	check(t, second, model{clock: "bc"})
	check(t, same, model{clock: "bc"})
	check(t, empty, model{})
	check(t, again, model{})
}

// P5.2
func TestErrorsOfWithAndWithout(t *testing.T) {
	long := strings.Repeat("x", api.MaxValue+1)
	s := made(t, model{object.OfClock(): "a"})
	for _, n := range wrongNames() {
		for _, value := range []string{"", "a", long} {
			if x, e := s.With(n, value); x != nil || e != api.ErrName {
				t.Errorf("With(%#v, %d bytes) = %v, %d; want ErrName", n, len(value), x, e)
			}
		}
		if x, e := s.Without(n); x != nil || e != api.ErrName {
			t.Errorf("Without(%#v) = %v, %d; want ErrName", n, x, e)
		}
	}
	for _, n := range []object.Name{object.OfClock(), object.OfEpoch()} {
		if x, e := s.With(n, long); x != nil || e != api.ErrLong {
			t.Errorf("With(%s, %d bytes) = %v, %d; want ErrLong", n, len(long), x, e)
		}
		x, e := s.With(n, long[1:])
		if e != api.OK {
			t.Fatalf("With(%s, %d bytes) = %d", n, len(long)-1, e)
		}
		if value, is := x.Get(n); value != long[1:] || !is {
			t.Errorf("the value of %s has %d bytes, %t", n, len(value), is)
		}
	}
	check(t, s, model{object.OfClock(): "a"})
}

// full returns a state with as many objects as permitted.
func full(t *testing.T) *state.State {
	t.Helper()
	s := state.New()
	for number := range state.MaxObjects {
		next, e := s.With(object.OfPort(number), "v")
		if e != api.OK {
			t.Fatalf("With the object %d = %d", number, e)
		}
		s = next
	}
	return s
}

// P5.2, P5.4, P5.5
func TestLimit(t *testing.T) {
	if state.MaxObjects != 65536 {
		t.Error(state.MaxObjects)
	}
	s := full(t)
	port, clock := object.OfPort(77), object.OfClock()
	if s.Len() != state.MaxObjects || s.Bytes() != state.MaxObjects || len(s.Names()) != state.MaxObjects || len(s.Kind(object.Port)) != state.MaxObjects {
		t.Error(s.Len(), s.Bytes(), len(s.Names()), len(s.Kind(object.Port)))
	}
	if x, e := s.With(clock, "a"); x != nil || e != api.ErrLimit {
		t.Errorf("With one more object = %d; want ErrLimit", e)
	}
	if x, e := s.With(clock, strings.Repeat("x", api.MaxValue+1)); x != nil || e != api.ErrLong {
		t.Errorf("With one more object and a long value = %d; want ErrLong", e)
	}
	if x, e := s.With(object.OfPort(-1), "a"); x != nil || e != api.ErrName {
		t.Errorf("With a wrong name = %d; want ErrName", e)
	}
	if x, e := s.With(port, "other"); e != api.OK || x.Len() != state.MaxObjects || x.Bytes() != state.MaxObjects+4 {
		t.Errorf("With another value = %d", e)
	}
	if x, e := s.Without(clock); e != api.OK || !x.Equal(s) {
		t.Errorf("Without an absent object = %d", e)
	}
	remove, add := state.Change{Name: port, Absent: true}, state.Change{Name: clock, Value: "a"}
	x, e := s.Apply([]state.Change{remove, add})
	if e != api.OK || x.Len() != state.MaxObjects {
		t.Errorf("Apply = %d", e)
	}
	if l := state.Diff(s, x); !slices.Equal(l, []state.Change{add, remove}) {
		t.Errorf("Diff has %d changes; want 2", len(l))
	}
	// The changes are made one after the other.
	if x, e := s.Apply([]state.Change{add, remove}); x != nil || e != api.ErrLimit {
		t.Errorf("Apply = %d; want ErrLimit", e)
	}
	if x, e := state.Decode(s.Encode()); e != api.OK || !x.Equal(s) {
		t.Errorf("Decode = %d", e)
	}
}

// P5.3
func TestNamesAndKind(t *testing.T) {
	s := made(t, model{object.OfProcess("10"): "", object.OfProcess("9"): "", object.OfProcess("9.1"): "", object.OfClock(): "", object.OfAccount("b"): "", object.OfAccount("a"): ""})
	for kind, want := range map[int][]object.Name{
		object.Process: {object.OfProcess("9"), object.OfProcess("9.1"), object.OfProcess("10")},
		object.Account: {object.OfAccount("a"), object.OfAccount("b")},
		object.Clock:   {object.OfClock()},
		object.Port:    nil, 0: nil, 21: nil, -1: nil,
	} {
		if l := s.Kind(kind); !slices.Equal(l, want) {
			t.Errorf("Kind(%d) = %v; want %v", kind, l, want)
		}
	}
	l := s.Names()
	l[0], s.Kind(object.Account)[0] = object.OfEpoch(), object.OfEpoch()
	if !slices.Equal(s.Names(), []object.Name{object.OfProcess("9"), object.OfProcess("9.1"), object.OfProcess("10"), object.OfAccount("a"), object.OfAccount("b"), object.OfClock()}) {
		t.Errorf("Names = %v after a result was changed", s.Names())
	}
}

func TestNilState(t *testing.T) {
	var s *state.State
	clock := object.OfClock()
	if value, is := s.Get(clock); value != "" || is {
		t.Errorf("Get = %q, %t", value, is)
	}
	for _, n := range []object.Name{clock, {}} {
		if x, e := s.With(n, strings.Repeat("x", api.MaxValue+1)); x != nil || e != api.ErrArgument {
			t.Errorf("With = %v, %d", x, e)
		}
		if x, e := s.Without(n); x != nil || e != api.ErrArgument {
			t.Errorf("Without = %v, %d", x, e)
		}
	}
	for _, l := range [][]state.Change{nil, {{Name: clock, Value: "a"}}, {{}}} {
		if x, e := s.Apply(l); x != nil || e != api.ErrArgument {
			t.Errorf("Apply = %v, %d", x, e)
		}
	}
	if s.Len() != 0 || s.Bytes() != 0 || len(s.Names()) != 0 || len(s.Kind(object.Clock)) != 0 || len(s.Encode()) != 0 || s.Digest() != [32]byte{} {
		t.Error("zero values")
	}
	some := made(t, model{clock: "a"})
	if len(state.Diff(nil, some)) != 0 || len(state.Diff(some, nil)) != 0 || len(state.Diff(nil, nil)) != 0 {
		t.Error("Diff")
	}
	if !s.Equal(nil) || s.Equal(some) || some.Equal(nil) || s.Equal(state.New()) || state.New().Equal(nil) {
		t.Error("Equal")
	}
}
