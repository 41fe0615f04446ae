package asm_test

import (
	"fmt"
	"math/rand/v2"
	"slices"
	"strings"
	"testing"

	"replevin/api"
	"replevin/asm"
	"replevin/instr"
)

// The limits of the chapter.
func TestLimits(t *testing.T) {
	if asm.MaxSource != 65536 || asm.MaxLabels != 1024 || asm.MaxLabel != 32 || asm.MaxMemory != 4096 {
		t.Error(asm.MaxSource, asm.MaxLabels, asm.MaxLabel, asm.MaxMemory)
	}
}

// P17.1
func TestIsLabel(t *testing.T) {
	most := strings.Repeat("a", asm.MaxLabel)
	for _, s := range []string{"a", "_", "Z", "z9", "_0", "a.b_c", "a.", "_.", "r", "r8", "r9", "r00", "r01", "R0", "r0a", "rr", "x0", "_r0", "halt", "data", most, most[:31]} {
		if !asm.IsLabel(s) {
			t.Errorf("IsLabel(%q) = false", s)
		}
	}
	for _, s := range []string{"", "r0", "r1", "r2", "r3", "r4", "r5", "r6", "r7", "0", "9a", ".", ".a", "-", "-a", "a-b", "a-", "a b", " a", "a ", "a:", "a,", "a\"", "a\n", "a\x00", "\xe4", "a\xe4", "ä", "aä", most + "a", "@", "[", "`", "{", "a@", "a[", "a`", "a{", "a/", "a;"} {
		if asm.IsLabel(s) {
			t.Errorf("IsLabel(%q) = true", s)
		}
	}
	for c := range 256 {
		for _, s := range []string{string([]byte{byte(c)}), "a" + string([]byte{byte(c)}), "a" + string([]byte{byte(c)}) + "b", "r" + string([]byte{byte(c)}), "r" + string([]byte{byte(c)}) + "0"} {
			if asm.IsLabel(s) != isLabel(s) {
				t.Errorf("IsLabel(%q) = %v", s, asm.IsLabel(s))
			}
		}
	}
}

// P17.1
func TestDataAt(t *testing.T) {
	for n, want := range map[int]int{0: 0, 1: 64, 2: 64, 15: 64, 16: 64, 17: 128, 32: 128, 33: 192, 1023: 4096, 1024: 4096, 1025: 4160, 5000: 20032} {
		if at := (asm.Program{Code: make([]instr.Instr, n)}).DataAt(); at != want {
			t.Errorf("DataAt of %d instructions is %d; want %d", n, at, want)
		}
	}
}

func halts(n int) []instr.Instr { return make([]instr.Instr, n) }

// numbered returns labels of the beginning of the code.
func numbered(n int) []asm.Label {
	l := make([]asm.Label, n)
	for i := range l {
		l[i].Name = fmt.Sprintf("l%04d", i)
	}
	return l
}

// P17.1
func TestCheck(t *testing.T) {
	code := func(name string, offset int) asm.Label { return asm.Label{Name: name, Offset: offset} }
	data := func(name string, offset int) asm.Label { return asm.Label{Name: name, Data: true, Offset: offset} }
	labels := func(l ...asm.Label) asm.Program {
		return asm.Program{Code: halts(2), Data: "abc", Zero: 2, Labels: l}
	}
	wrong := instr.Instr{Op: instr.Set, A: 8}
	for i, x := range []struct {
		p    asm.Program
		want api.Errno
	}{
		{asm.Program{}, api.ErrRange}, {asm.Program{Code: halts(1)}, api.OK}, {asm.Program{Code: halts(1024), Entry: 4092}, api.OK},
		// Instructions come first.
		{asm.Program{Code: []instr.Instr{{}, wrong, {Op: 27}}, Zero: -1, Entry: 1}, api.ErrRange}, {asm.Program{Code: []instr.Instr{{Op: 27}, wrong}, Zero: -1}, api.ErrKind}, {asm.Program{Code: []instr.Instr{{A: 1}}}, api.ErrArgument}, {asm.Program{Code: append(halts(2000), instr.Instr{Op: -1})}, api.ErrKind},
		// Then the sizes.
		{asm.Program{Code: halts(1), Zero: -1}, api.ErrLimit}, {asm.Program{Code: halts(1), Zero: -large - 1}, api.ErrLimit}, {asm.Program{Code: halts(1), Zero: large}, api.ErrLimit}, {asm.Program{Zero: -1}, api.ErrLimit}, {asm.Program{Zero: 4096}, api.ErrRange}, {asm.Program{Zero: 4097}, api.ErrLimit}, {asm.Program{Data: "x", Zero: -1}, api.ErrLimit}, {asm.Program{Data: "x", Zero: 4096}, api.ErrLimit},
		{asm.Program{Code: halts(1), Zero: 4032}, api.OK}, {asm.Program{Code: halts(1), Zero: 4033}, api.ErrLimit}, {asm.Program{Code: halts(17), Zero: 3968}, api.OK}, {asm.Program{Code: halts(17), Zero: 3969}, api.ErrLimit}, {asm.Program{Code: halts(16), Data: strings.Repeat("x", 4032)}, api.OK}, {asm.Program{Code: halts(16), Data: strings.Repeat("x", 4033)}, api.ErrLimit}, {asm.Program{Code: halts(16), Data: strings.Repeat("x", 4000), Zero: 32}, api.OK}, {asm.Program{Code: halts(16), Data: strings.Repeat("x", 4000), Zero: 33}, api.ErrLimit},
		{asm.Program{Code: halts(1025)}, api.ErrLimit}, {asm.Program{Code: halts(1024), Data: "x"}, api.ErrLimit}, {asm.Program{Data: strings.Repeat("x", 4097)}, api.ErrLimit},
		{asm.Program{Code: halts(1), Labels: numbered(1024)}, api.OK}, {asm.Program{Code: halts(1), Labels: numbered(1025)}, api.ErrLimit}, {asm.Program{Code: halts(1), Entry: 2, Labels: numbered(1025)}, api.ErrLimit}, {asm.Program{Labels: make([]asm.Label, 1025)}, api.ErrLimit},
		// Then the entry.
		{asm.Program{Code: halts(3), Entry: 4}, api.OK}, {asm.Program{Code: halts(3), Entry: 8}, api.OK}, {asm.Program{Code: halts(3), Entry: 12}, api.ErrRange}, {asm.Program{Code: halts(3), Entry: 2}, api.ErrRange}, {asm.Program{Code: halts(3), Entry: 5}, api.ErrRange}, {asm.Program{Code: halts(3), Entry: -4}, api.ErrRange}, {asm.Program{Code: halts(3), Entry: large}, api.ErrRange}, {asm.Program{Code: halts(3), Entry: -large - 1}, api.ErrRange}, {asm.Program{Code: halts(3), Entry: 64, Data: "abcd"}, api.ErrRange}, {asm.Program{Code: halts(1), Entry: 4, Labels: []asm.Label{{Name: "r1"}}}, api.ErrRange},
		// Then the labels, one after the other.
		{labels(code("a", 0), code("b", 0), code("a2", 4), code("z", 8), data("c", 0), data("d", 3), data("e", 5)), api.OK},
		{labels(code("", 0)), api.ErrName}, {labels(code("r1", 3)), api.ErrName}, {labels(code("a", 0), code("b-", -1)), api.ErrName}, {labels(code("b", 0), code("5", 0)), api.ErrName},
		{labels(code("a", 2)), api.ErrRange}, {labels(code("a", 12)), api.ErrRange}, {labels(code("a", -4)), api.ErrRange}, {labels(code("a", large)), api.ErrRange}, {labels(data("a", 6)), api.ErrRange}, {labels(data("a", -1)), api.ErrRange}, {labels(data("a", -large-1)), api.ErrRange}, {labels(code("b", 4), code("a", 2)), api.ErrRange}, {labels(data("b", 1), code("a", 1)), api.ErrRange}, {labels(code("a", 2), code("r1", 0)), api.ErrRange},
		{labels(code("b", 0), code("a", 0)), api.ErrSequence}, {labels(code("a", 4), code("b", 0)), api.ErrSequence}, {labels(data("a", 0), code("b", 0)), api.ErrSequence}, {labels(data("a", 0), code("b", 8)), api.ErrSequence}, {labels(data("b", 1), data("a", 1)), api.ErrSequence}, {labels(data("a", 1), data("b", 0)), api.ErrSequence}, {labels(code("a", 0), code("a", 0)), api.ErrSequence}, {labels(data("a", 5), data("a", 5)), api.ErrSequence}, {labels(code("b", 0), code("a", 0), code("r1", 0)), api.ErrSequence},
		// Then names that occur twice.
		{labels(code("a", 0), code("a", 4)), api.ErrDuplicate}, {labels(code("a", 0), data("a", 0)), api.ErrDuplicate}, {labels(code("a", 0), code("b", 0), code("a", 8)), api.ErrDuplicate}, {labels(data("a", 1), data("a", 2)), api.ErrDuplicate}, {labels(code("a", 0), code("a", 4), code("r1", 8)), api.ErrName}, {labels(code("a", 0), code("a", 4), code("b", 0)), api.ErrSequence}, {labels(code("A", 0), code("a", 0)), api.OK},
	} {
		if e := x.p.Check(); e != x.want {
			t.Errorf("%d: Check = %d; want %d", i, e, x.want)
		}
		if e := checked(x.p); e != x.want {
			t.Errorf("%d: the model's error is %d; want %d", i, e, x.want)
		}
	}
}

// someProgram returns a program that has an error sometimes.
func someProgram(random *rand.Rand) asm.Program {
	p := asm.Program{Code: make([]instr.Instr, random.IntN(6)), Data: "ab\x00\xff\""[:random.IntN(6)], Zero: random.IntN(3)}
	for i := range p.Code {
		p.Code[i] = instr.Instr{Op: instr.AddImm, A: random.IntN(8), B: random.IntN(8), C: random.IntN(65536) - 32768}
	}
	if random.IntN(2) == 0 {
		p.Data = string(make([]byte, random.IntN(40))) + strings.Repeat("ab\x00\xff\"", random.IntN(20))
	}
	if len(p.Code) > 0 {
		p.Entry = 4 * random.IntN(len(p.Code))
	}
	for range random.IntN(7) {
		l := asm.Label{Name: pick(random, "a", "b", "c", "d", "e", "f", "g", "h", "i", "j", "k", "r8"), Data: random.IntN(2) == 0}
		if l.Data {
			l.Offset = random.IntN(len(p.Data) + p.Zero + 1)
		} else {
			l.Offset = 4 * random.IntN(len(p.Code)+1)
		}
		p.Labels = append(p.Labels, l)
	}
	slices.SortFunc(p.Labels, func(a, b asm.Label) int { return strings.Compare(labelKey(a), labelKey(b)) })
	if random.IntN(3) > 0 {
		return p
	}
	spoil(random, &p)
	return p
}

// spoil changes something in a program, which may be an error then.
func spoil(random *rand.Rand, p *asm.Program) {
	if len(p.Labels) == 0 {
		p.Labels = []asm.Label{{Name: "r1"}}
	}
	at := random.IntN(len(p.Labels))
	switch random.IntN(6) {
	case 0:
		p.Entry = random.IntN(20) - 4
	case 1:
		p.Zero = []int{-1, 4096, 4097, 4032, 3800}[random.IntN(5)]
	case 2:
		p.Labels[at].Offset = random.IntN(30) - 4
	case 3:
		p.Labels[at].Name = pick(random, "r1", "", "a", "b", "5", "a-b")
	case 4:
		p.Labels[at].Data = !p.Labels[at].Data
	case 5:
		p.Code = append(p.Code, instr.Instr{Op: random.IntN(28), A: random.IntN(9)})
	}
}

// P17.1
func TestRandomPrograms(t *testing.T) {
	random := rand.New(rand.NewPCG(3, 17))
	counts := map[api.Errno]int{}
	for range 20000 {
		p := someProgram(random)
		want := checked(p)
		counts[want]++
		given := fmt.Sprint(p)
		if e := p.Check(); e != want {
			t.Fatalf("%v: Check = %d; want %d", p, e, want)
		}
		for _, name := range []string{"a", "b", "r8", "r1", "", "z"} {
			wantAt, wantIs := 0, false
			for _, l := range p.Labels {
				if l.Name == name && want == api.OK {
					wantAt, wantIs = l.Offset, true
					if l.Data {
						wantAt += p.DataAt()
					}
				}
			}
			if at, is := p.Address(name); at != wantAt || is != wantIs {
				t.Fatalf("%v: Address(%q) = %d, %v; want %d, %v", p, name, at, is, wantAt, wantIs)
			}
		}
		if fmt.Sprint(p) != given {
			t.Fatalf("%s has become %v", given, p)
		}
	}
	for _, e := range []api.Errno{api.OK, api.ErrKind, api.ErrArgument, api.ErrRange, api.ErrLimit, api.ErrName, api.ErrSequence, api.ErrDuplicate} {
		if counts[e] < 30 {
			t.Errorf("the error %d occurs %d times", e, counts[e])
		}
	}
}

// P17.1
func TestAddress(t *testing.T) {
	p := asm.Program{Code: halts(17), Data: "abc", Zero: 4, Labels: []asm.Label{{Name: "a"}, {Name: "b", Offset: 68}, {Name: "c", Data: true}, {Name: "d", Data: true, Offset: 7}}}
	for name, want := range map[string]int{"a": 0, "b": 68, "c": 128, "d": 135} {
		if at, is := p.Address(name); at != want || !is {
			t.Errorf("Address(%q) = %d, %v; want %d", name, at, is, want)
		}
	}
	p.Entry = 2
	for _, name := range []string{"a", "b", "c", "d", "e"} {
		if at, is := p.Address(name); at != 0 || is {
			t.Errorf("with an error, Address(%q) = %d, %v", name, at, is)
		}
	}
}

// P17.6
func TestEqual(t *testing.T) {
	one := func() asm.Program {
		return asm.Program{Code: []instr.Instr{{}, {Op: instr.Set, A: 1, C: 2}}, Data: "ab", Zero: 3, Entry: 4, Labels: []asm.Label{{Name: "a"}, {Name: "b", Data: true, Offset: 1}}}
	}
	if !asm.Equal(one(), one()) || !asm.Equal(asm.Program{}, asm.Program{Code: []instr.Instr{}, Labels: []asm.Label{}}) {
		t.Error("Equal of equal programs is false")
	}
	for i, change := range []func(p *asm.Program){
		func(p *asm.Program) { p.Code[1].Op = instr.High }, func(p *asm.Program) { p.Code[1].A = 2 }, func(p *asm.Program) { p.Code[0].B = 2 }, func(p *asm.Program) { p.Code[1].C = 3 }, func(p *asm.Program) { p.Code = p.Code[:1] }, func(p *asm.Program) { p.Code = nil }, func(p *asm.Program) { p.Code = append(p.Code, instr.Instr{}) },
		func(p *asm.Program) { p.Data = "ac" }, func(p *asm.Program) { p.Data = "a" }, func(p *asm.Program) { p.Data = "" }, func(p *asm.Program) { p.Zero = 4 }, func(p *asm.Program) { p.Entry = 0 },
		func(p *asm.Program) { p.Labels[0].Name = "c" }, func(p *asm.Program) { p.Labels[1].Data = false }, func(p *asm.Program) { p.Labels[1].Offset = 0 }, func(p *asm.Program) { p.Labels = p.Labels[:1] }, func(p *asm.Program) { p.Labels = nil },
	} {
		p := one()
		change(&p)
		if asm.Equal(p, one()) || asm.Equal(one(), p) {
			t.Errorf("%d: Equal of %v is true", i, p)
		}
	}
}
