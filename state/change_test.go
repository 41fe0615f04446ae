package state_test

import (
	"maps"
	"math/rand/v2"
	"slices"
	"strings"
	"testing"

	"replevin/api"
	"replevin/object"
	"replevin/state"
)

// someModel returns a model with some of the names.
func someModel(random *rand.Rand, most int) model {
	names := someNames()
	m := model{}
	for range random.IntN(most + 1) {
		m[names[random.IntN(len(names))]] = someValue(random)
	}
	return m
}

// P5.4, P5.6, P5.7: states that were made from one another, and others.
func TestDiff(t *testing.T) {
	random := rand.New(rand.NewPCG(2, 2))
	for range 3000 {
		a := someModel(random, 60)
		from := made(t, a)
		b := someModel(random, 60)
		to := made(t, b)
		if random.IntN(2) == 0 {
			changes := a.diff(someModel(random, 60))
			random.Shuffle(len(changes), func(i, j int) { changes[i], changes[j] = changes[j], changes[i] })
			b, to = maps.Clone(a), from
			for _, c := range changes[:min(len(changes), random.IntN(6))] {
				var e api.Errno
				to, e = to.Apply([]state.Change{c})
				if e != api.OK {
					t.Fatal(e)
				}
				b[c.Name] = c.Value
				if c.Absent {
					delete(b, c.Name)
				}
			}
		}
		l := state.Diff(from, to)
		if want := a.diff(b); !slices.Equal(l, want) {
			t.Fatalf("Diff = %v; want %v", l, want)
		}
		if from.Equal(to) != (len(l) == 0) || to.Equal(from) != (len(l) == 0) {
			t.Fatalf("Equal = %t, %t with %d differences", from.Equal(to), to.Equal(from), len(l))
		}
		x, e := from.Apply(l)
		if e != api.OK || !x.Equal(to) {
			t.Fatalf("Apply of the differences = %d", e)
		}
		check(t, x, b)
		check(t, from, a)
	}
}

// P5.4
func TestDiffOfLargeStates(t *testing.T) {
	s := full(t)
	ports := []int{0, 1, 2, 777, 30000, 30001, 65534, 65535}
	x := s
	var want []state.Change
	for i, port := range ports {
		c := state.Change{Name: object.OfPort(port), Value: "other"}
		if i%2 == 0 {
			c = state.Change{Name: object.OfPort(port), Absent: true}
		}
		want = append(want, c)
		var e api.Errno
		if x, e = x.Apply([]state.Change{c}); e != api.OK {
			t.Fatal(e)
		}
	}
	if l := state.Diff(s, x); !slices.Equal(l, want) {
		t.Errorf("Diff has %d changes; want %v", len(l), want)
	}
	decoded, e := state.Decode(x.Encode())
	if e != api.OK || len(state.Diff(x, decoded)) != 0 || !slices.Equal(state.Diff(s, decoded), want) || len(state.Diff(state.New(), s)) != state.MaxObjects || len(state.Diff(s, state.New())) != state.MaxObjects {
		t.Errorf("Diff of other states: %d", e)
	}
}

// P5.4
func TestApply(t *testing.T) {
	clock, epoch, ann := object.OfClock(), object.OfEpoch(), object.OfAccount("ann")
	long := strings.Repeat("x", api.MaxValue+1)
	s := made(t, model{clock: "a", ann: "b"})
	for _, c := range []struct {
		l    []state.Change
		want model
	}{
		{nil, model{clock: "a", ann: "b"}},
		{[]state.Change{{Name: epoch, Value: "c"}, {Name: clock, Value: "d"}}, model{clock: "d", ann: "b", epoch: "c"}},
		{[]state.Change{{Name: clock, Absent: true, Value: long}}, model{ann: "b"}},
		{[]state.Change{{Name: epoch, Absent: true, Value: "c"}}, model{clock: "a", ann: "b"}},
		{[]state.Change{{Name: clock, Value: "1"}, {Name: clock, Value: "2"}}, model{clock: "2", ann: "b"}},
		{[]state.Change{{Name: clock, Value: "1"}, {Name: clock, Absent: true}}, model{ann: "b"}},
		{[]state.Change{{Name: clock, Absent: true}, {Name: clock, Value: "1"}}, model{clock: "1", ann: "b"}},
		{[]state.Change{{Name: epoch}}, model{clock: "a", ann: "b", epoch: ""}},
	} {
		given := slices.Clone(c.l)
		x, e := s.Apply(c.l)
		if e != api.OK {
			t.Fatalf("Apply(%v) = %d", c.l, e)
		}
		check(t, x, c.want)
		if !slices.Equal(c.l, given) {
			t.Errorf("Apply changes %v to %v", given, c.l)
		}
	}
	check(t, s, model{clock: "a", ann: "b"})
}

// P5.4
func TestErrorsOfApply(t *testing.T) {
	clock, epoch := object.OfClock(), object.OfEpoch()
	long := strings.Repeat("x", api.MaxValue+1)
	s := made(t, model{clock: "a"})
	for i, c := range []struct {
		l    []state.Change
		want api.Errno
	}{
		{[]state.Change{{}}, api.ErrName},
		{[]state.Change{{Name: object.Name{Kind: 21}, Absent: true}}, api.ErrName},
		{[]state.Change{{Name: object.OfPort(-1), Value: long}}, api.ErrName},
		{[]state.Change{{Name: clock, Value: long}}, api.ErrLong},
		{[]state.Change{{Name: epoch, Value: "1"}, {Name: clock, Value: long}, {}}, api.ErrLong},
		{[]state.Change{{Name: epoch, Value: "1"}, {}, {Name: clock, Value: long}}, api.ErrName},
		{[]state.Change{{Name: epoch, Value: "1"}, {Name: clock, Absent: true}, {}}, api.ErrName},
	} {
		if x, e := s.Apply(c.l); x != nil || e != c.want {
			t.Errorf("%d: Apply = %v, %d; want %d", i, x, e, c.want)
		}
	}
	check(t, s, model{clock: "a"})
}

// P5.7
func TestOrderOfChanges(t *testing.T) {
	random := rand.New(rand.NewPCG(3, 3))
	for range 200 {
		a, b := someModel(random, 40), someModel(random, 40)
		s, l := made(t, a), a.diff(b)
		for range 5 {
			random.Shuffle(len(l), func(i, j int) { l[i], l[j] = l[j], l[i] })
			x, e := s.Apply(l)
			if e != api.OK {
				t.Fatal(e)
			}
			check(t, x, b)
		}
	}
}

// P5.6
func TestEqual(t *testing.T) {
	clock, epoch := object.OfClock(), object.OfEpoch()
	models := []model{{}, {clock: ""}, {clock: "a"}, {clock: "b"}, {epoch: "a"}, {clock: "a", epoch: ""}, {clock: "", epoch: "a"}, {clock: "ab", epoch: ""}, {clock: "a", epoch: "b"}, {clock: "b", epoch: "a"}}
	for i, a := range models {
		for j, b := range models {
			x, y := made(t, a), made(t, b)
			if x.Equal(y) != (i == j) || slices.Equal(x.Encode(), y.Encode()) != (i == j) || (x.Digest() == y.Digest()) != (i == j) {
				t.Errorf("%v and %v: %t", a, b, x.Equal(y))
			}
		}
	}
}
