package cpu_test

import (
	"slices"
	"strings"
	"testing"

	"replevin/api"
	"replevin/asm"
	"replevin/cpu"
	"replevin/instr"
	"replevin/space"
)

// program returns a memory with the code of a text from the address 0 on, and with zero bytes on the page 63.
func program(t *testing.T, text string) *space.Space {
	t.Helper()
	p, line, e := asm.Assemble(text)
	if e != api.OK {
		t.Fatalf("line %d of %q: %d", line, text, e)
	}
	b, _, e := instr.EncodeAll(p.Code)
	if e != api.OK {
		t.Fatalf("EncodeAll: %d", e)
	}
	m := space.New(nil)
	for page := range 63 {
		if 64*page < len(b) {
			m.Map(page, string(b[64*page:min(len(b), 64*page+64)]))
		}
	}
	m.Map(63, "")
	return m
}

// registers returns registers with some first values, and 0 in the others.
func registers(pc uint32, l ...uint32) cpu.Registers {
	r := cpu.Registers{PC: pc}
	copy(r.R[:], l)
	return r
}

// P19.1: what each operation does.
func TestEffects(t *testing.T) {
	for _, x := range []struct {
		text      string
		r, want   cpu.Registers
		at, bytes string // what is at the address 4032 before, if it is not zero, and after
	}{
		{"move r1, r2", registers(0, 1, 2, 3), registers(4, 1, 3, 3), "", ""},
		{"move r2, r2", registers(0, 1, 2, 3), registers(4, 1, 2, 3), "", ""},
		{"set r0, -1", registers(0, 5), registers(4, 0xffffffff), "", ""},
		{"set r7, -32768", registers(0), registers(4, 0, 0, 0, 0, 0, 0, 0, 0xffff8000), "", ""},
		{"set r1, 32767", registers(0, 1, 0xffffffff), registers(4, 1, 32767), "", ""},
		{"high r1, 0xffff", registers(0, 0, 0x12345678), registers(4, 0, 0xffff5678), "", ""},
		{"high r1, 0", registers(0, 0, 0xffffffff), registers(4, 0, 0xffff), "", ""},
		{"high r1, 0x8001", registers(0, 0, 0), registers(4, 0, 0x80010000), "", ""},
		{"add r0, r1, r2", registers(0, 9, 0xffffffff, 2), registers(4, 1, 0xffffffff, 2), "", ""},
		{"sub r0, r1, r2", registers(0, 9, 1, 2), registers(4, 0xffffffff, 1, 2), "", ""},
		{"mul r1, r1, r1", registers(0, 9, 0x10001), registers(4, 9, 0x20001), "", ""},
		{"div r0, r1, r2", registers(0, 9, ^uint32(6), 2), registers(4, ^uint32(2), ^uint32(6), 2), "", ""},
		{"mod r0, r1, r2", registers(0, 9, ^uint32(6), 2), registers(4, ^uint32(0), ^uint32(6), 2), "", ""},
		{"div r0, r1, r2", registers(0, 9, 1<<31, ^uint32(0)), registers(4, 1<<31, 1<<31, ^uint32(0)), "", ""},
		{"and r0, r1, r2", registers(0, 9, 12, 10), registers(4, 8, 12, 10), "", ""},
		{"or r0, r1, r2", registers(0, 9, 12, 10), registers(4, 14, 12, 10), "", ""},
		{"xor r0, r1, r2", registers(0, 9, 12, 10), registers(4, 6, 12, 10), "", ""},
		{"shl r0, r1, r2", registers(0, 9, 3, 33), registers(4, 6, 3, 33), "", ""},
		{"shr r0, r1, r2", registers(0, 9, 1<<31, 31), registers(4, 1, 1<<31, 31), "", ""},
		{"less r0, r1, r2", registers(0, 9, 1<<31, 0), registers(4, 1, 1<<31, 0), "", ""},
		{"less r0, r1, r1", registers(0, 9, 7), registers(4, 0, 7), "", ""},
		{"equal r0, r1, r2", registers(0, 9, 7, 7), registers(4, 1, 7, 7), "", ""},
		{"equal r0, r1, r2", registers(0, 9, 7, 8), registers(4, 0, 7, 8), "", ""},
		{"addi r1, r2, -3", registers(0, 0, 9, 2), registers(4, 0, 0xffffffff, 2), "", ""},
		{"addi r1, r1, 32767", registers(0, 0, 0xffffffff), registers(4, 0, 32766), "", ""},
		{"load r1, r0, 1", registers(0, 4032), registers(4, 4032, 0xf4f3f2f1), "\xf0\xf1\xf2\xf3\xf4", "\xf0\xf1\xf2\xf3\xf4"},
		{"load r0, r0, -4", registers(0, 4036), registers(4, 0x64636261), "abcd", "abcd"},
		{"load r1, r0, 4033", registers(0, ^uint32(0)), registers(4, ^uint32(0), 0x64636261), "abcd", "abcd"},
		{"loadb r1, r0, 2", registers(0, 4032, 0xffffffff), registers(4, 4032, 0xf2), "\xf0\xf1\xf2\xf3", "\xf0\xf1\xf2\xf3"},
		{"store r1, r0, 1", registers(0, 4032, 0x64636261), registers(4, 4032, 0x64636261), "123456", "1abcd6"},
		{"store r0, r0, 0", registers(0, 4032), registers(4, 4032), "12345", "\xc0\x0f\x00\x005"},
		{"storeb r1, r0, 1", registers(0, 4032, 0xabcdef41), registers(4, 4032, 0xabcdef41), "123", "1A3"},
		{"storeb r1, r0, -1", registers(0, 4033, 0x100), registers(4, 4033, 0x100), "123", "\x0023"},
		{"jump 60", registers(0, 7), registers(60, 7), "", ""},
		{"jump 4095", registers(0, 7), registers(4095, 7), "", ""},
		{"jump 0", registers(0, 7), registers(0, 7), "", ""},
		{"jumpz r1, 60", registers(0, 7, 0), registers(60, 7, 0), "", ""},
		{"jumpz r0, 60", registers(0, 0x80000000, 0), registers(4, 0x80000000, 0), "", ""},
		{"jumpnz r1, 60", registers(0, 7, 0), registers(4, 7, 0), "", ""},
		{"jumpnz r0, 60", registers(0, 0x80000000, 0), registers(60, 0x80000000, 0), "", ""},
		{"call r3, 60", registers(0, 7, 0, 0, 9), registers(60, 7, 0, 0, 4), "", ""},
		{"back r1", registers(0, 7, 0xfffffffe), registers(0xfffffffe, 7, 0xfffffffe), "", ""},
		{"back r1", registers(0, 7, 0), registers(0, 7, 0), "", ""},
	} {
		m := program(t, x.text)
		m.Store(4032, x.at)
		want := cpu.Result{Registers: x.want, Why: cpu.Budget, Executed: 1}
		if got, e := cpu.Step(x.r, m); got != want || e != api.OK {
			t.Errorf("%q: Step(%v) = %v, %d; want %v", x.text, x.r, got, e, want)
		}
		if got, e := m.Load(4032, len(x.bytes)); got != x.bytes || e != api.OK {
			t.Errorf("%q: %q, %d; want %q", x.text, got, e, x.bytes)
		}
	}
}

// P19.1: execution ends without anything being changed, and ends again for the same reason (P19.6).
func TestEnds(t *testing.T) {
	for _, x := range []struct {
		text    string
		r       cpu.Registers
		why     int
		number  int
		address uint32
	}{
		{"halt", registers(0, 1, 2), cpu.Halt, 0, 0},
		{"trap 0", registers(0, 1, 2), cpu.Trap, 0, 0},
		{"trap 255", registers(0, 1, 2), cpu.Trap, 255, 0},
		{"div r0, r1, r2", registers(0, 7, 7, 0), cpu.Divide, 0, 0},
		{"mod r1, r1, r1", registers(0, 7, 0), cpu.Divide, 0, 0},
		{"load r0, r1, 0", registers(0, 7, 4093), cpu.Fault, 0, 4093},
		{"load r0, r1, -1", registers(0, 7, 0), cpu.Fault, 0, 0xffffffff},
		{"load r0, r1, -4", registers(0, 7, 2), cpu.Fault, 0, 0xfffffffe},
		{"load r0, r1, 1", registers(0, 7, 0x7fffffff), cpu.Fault, 0, 0x80000000},
		{"load r0, r1, 0", registers(0, 7, 64), cpu.Fault, 0, 64},
		{"load r0, r1, 61", registers(0, 7, 0), cpu.Fault, 0, 61},
		{"load r0, r1, 0", registers(0, 7, 4029), cpu.Fault, 0, 4029},
		{"loadb r0, r1, 1", registers(0, 7, 4095), cpu.Fault, 0, 4096},
		{"loadb r0, r1, 1", registers(0, 7, 63), cpu.Fault, 0, 64},
		{"store r0, r1, 0", registers(0, 7, 4093), cpu.Fault, 0, 4093},
		{"store r0, r1, 62", registers(0, 7, 0), cpu.Fault, 0, 62},
		{"store r0, r1, 0", registers(0, 7, 0xffffffff), cpu.Fault, 0, 0xffffffff},
		{"storeb r0, r1, 0", registers(0, 7, 4031), cpu.Fault, 0, 4031},
		{"storeb r0, r1, -8", registers(0, 7, 7), cpu.Fault, 0, 0xffffffff},
		// The program counter is not accessible for four bytes, or there is no instruction.
		{"halt", registers(64, 7), cpu.Fault, 0, 64},
		{"halt", registers(61, 7), cpu.Fault, 0, 61},
		{"halt", registers(4093, 7), cpu.Fault, 0, 4093},
		{"halt", registers(4096, 7), cpu.Fault, 0, 4096},
		{"halt", registers(0xfffffffe, 7), cpu.Fault, 0, 0xfffffffe},
		{"trap 200", registers(1, 7), cpu.Illegal, 0, 0},
		{"move r0, r1\nmove r0, r1", registers(2, 7), cpu.Illegal, 0, 0},
	} {
		m := program(t, x.text)
		before := m.Fork()
		want := cpu.Result{Registers: x.r, Why: x.why, Number: x.number, Address: x.address}
		for _, budget := range []int{1, 2, cpu.MaxBudget} {
			if got, e := cpu.Run(x.r, m, budget); got != want || e != api.OK {
				t.Errorf("%q: Run(%v, %d) = %v, %d; want %v", x.text, x.r, budget, got, e, want)
			}
		}
		if !m.Equal(before) {
			t.Errorf("%q has changed the memory", x.text)
		}
		for pc, i := range cpu.Trace(x.r, m, 10) {
			t.Errorf("%q: Trace yields %d, %v", x.text, pc, i)
		}
	}
}

// P19.1: all words of four bytes that are near to an instruction.
func TestIllegal(t *testing.T) {
	for op := range 256 {
		for _, rest := range []string{"\x00\x00\x00", "\x77\x07\x00", "\x80\x00\x00", "\x08\x00\x00", "\x01\x00\x00", "\x10\x00\x00", "\x00\x00\x10", "\x00\x08\x00", "\x11\xff\xff", "\x00\xff\x00", "\x00\x00\x01"} {
			s := string([]byte{byte(op)}) + rest
			_, e := instr.Decode([4]byte([]byte(s)))
			m := space.New(nil)
			m.Map(0, s)
			got, _ := cpu.Step(cpu.Registers{}, m)
			if (got.Why == cpu.Illegal) != (e != api.OK) {
				t.Errorf("%q: %v; Decode returns %d", s, got, e)
			}
		}
	}
}

// P19.1, and the chapter's examples
func TestRun(t *testing.T) {
	m := program(t, "set r1, 5\nset r2, 7\nadd r0, r1, r2\ntrap 3\nhalt")
	want := cpu.Result{Registers: registers(12, 12, 5, 7), Why: cpu.Trap, Number: 3, Executed: 3}
	for _, budget := range []int{4, 5, 1000} {
		if got, e := cpu.Run(cpu.Registers{}, m, budget); got != want || e != api.OK {
			t.Errorf("Run with the budget %d = %v, %d; want %v", budget, got, e, want)
		}
	}
	// As many instructions as the budget permits were executed, so what is next does not matter.
	want = cpu.Result{Registers: registers(12, 12, 5, 7), Why: cpu.Budget, Executed: 3}
	if got, e := cpu.Run(cpu.Registers{}, m, 3); got != want || e != api.OK {
		t.Errorf("Run with the budget 3 = %v, %d; want %v", got, e, want)
	}
	want = cpu.Result{Registers: registers(16, 0, 5, 7), Why: cpu.Halt}
	if got, e := cpu.Run(cpu.Resume(registers(12, 12, 5, 7), 0), m, 100); got != want || e != api.OK {
		t.Errorf("Run after Resume = %v, %d; want %v", got, e, want)
	}
	m = program(t, "load r0, r1, 0")
	want = cpu.Result{Registers: registers(0, 0, 4094), Why: cpu.Fault, Address: 4094}
	if got, e := cpu.Run(registers(0, 0, 4094), m, 100); got != want || e != api.OK {
		t.Errorf("Run = %v, %d; want %v", got, e, want)
	}
}

// P19.1: the last instruction of the memory is followed by an address that does not exist.
func TestEndOfMemory(t *testing.T) {
	m := space.New(func(page int) (string, bool) { return strings.Repeat("\x02\x10\x05\x00", 16), true })
	want := cpu.Result{Registers: registers(4096, 0, 5), Why: cpu.Fault, Address: 4096, Executed: 1024}
	if got, e := cpu.Run(cpu.Registers{}, m, 2000); got != want || e != api.OK {
		t.Errorf("Run = %v, %d; want %v", got, e, want)
	}
}

// P19.1: instructions that change the following instruction, in the same page and across two pages.
func TestChangedInstructions(t *testing.T) {
	m := program(t, "store r1, r2, 0\nhalt")
	setThree, _ := instr.Encode(instr.Instr{Op: instr.Set, A: 3, C: 9})
	w := uint32(setThree[0]) | uint32(setThree[1])<<8 | uint32(setThree[2])<<16 | uint32(setThree[3])<<24
	want := cpu.Result{Registers: registers(8, 0, w, 4, 9), Why: cpu.Budget, Executed: 2}
	if got, e := cpu.Run(registers(0, 0, w, 4), m, 2); got != want || e != api.OK {
		t.Errorf("Run = %v, %d; want %v", got, e, want)
	}
	m = program(t, strings.Repeat("halt\n", 20))
	m.SetWord(62, w)
	want = cpu.Result{Registers: registers(66, 0, 0, 0, 9), Why: cpu.Budget, Executed: 1}
	if got, e := cpu.Step(registers(62), m); got != want || e != api.OK {
		t.Errorf("Step = %v, %d; want %v", got, e, want)
	}
}

// P19.1
func TestRunErrors(t *testing.T) {
	m := program(t, "jump 0")
	for _, x := range []struct {
		m      *space.Space
		budget int
		want   api.Errno
	}{
		{nil, 1, api.ErrArgument}, {nil, 0, api.ErrArgument}, {nil, -1, api.ErrArgument}, {nil, cpu.MaxBudget + 1, api.ErrArgument},
		{m, -1, api.ErrRange}, {m, -large - 1, api.ErrRange}, {m, cpu.MaxBudget + 1, api.ErrRange}, {m, large, api.ErrRange},
	} {
		if got, e := cpu.Run(registers(0, 1, 2), x.m, x.budget); got != (cpu.Result{}) || e != x.want {
			t.Errorf("Run with the budget %d = %v, %d; want %d", x.budget, got, e, x.want)
		}
		for pc, i := range cpu.Trace(registers(0, 1, 2), x.m, x.budget) {
			t.Errorf("Trace with the budget %d yields %d, %v", x.budget, pc, i)
		}
	}
	if got, e := cpu.Step(cpu.Registers{}, nil); got != (cpu.Result{}) || e != api.ErrArgument {
		t.Errorf("Step without a memory = %v, %d", got, e)
	}
	if cpu.MaxBudget != 100000 {
		t.Error(cpu.MaxBudget)
	}
	m = program(t, "addi r0, r0, 1\njump 0")
	want := cpu.Result{Registers: registers(0, 50000), Why: cpu.Budget, Executed: 100000}
	if got, e := cpu.Run(cpu.Registers{}, m, cpu.MaxBudget); got != want || e != api.OK {
		t.Errorf("Run with the greatest budget = %v, %d", got, e)
	}
	// The zero Space has no pages.
	if got, e := cpu.Step(registers(8), new(space.Space)); got != (cpu.Result{Registers: registers(8), Why: cpu.Fault, Address: 8}) || e != api.OK {
		t.Errorf("Step with the zero Space = %v, %d", got, e)
	}
}

// P19.1, P19.2: what is needed of the memory.
func TestNeeds(t *testing.T) {
	code := func(text string) string {
		s, _ := program(t, text).Page(0)
		return s
	}
	for _, x := range []struct {
		text   string
		r      cpu.Registers
		budget int
		want   []int
	}{
		{"halt", registers(0), 0, nil}, {"halt", registers(5000), 0, nil}, {"halt", registers(0), 1, []int{0}}, {"trap 1", registers(0), 9, []int{0}},
		{"move r1, r2\njump 640", registers(0), 1, []int{0}}, {"move r1, r2\njump 640", registers(0), 2, []int{0}}, {"move r1, r2\njump 640", registers(0), 3, []int{0, 10}}, {"move r1, r2\njump 638", registers(0), 3, []int{0, 9}},
		{"halt", registers(5000), 1, nil}, {"halt", registers(4093), 1, nil}, {"halt", registers(125), 1, []int{1, 2}}, {"halt", registers(126 + 64), 1, []int{2}},
		{"load r0, r1, 0", registers(0, 0, 128), 1, []int{0, 2}}, {"load r0, r1, 0", registers(0, 0, 125), 1, []int{0, 1, 2}}, {"load r0, r1, 0", registers(0, 0, 189), 1, []int{0, 2}}, {"load r0, r1, 0", registers(0, 0, 4093), 1, []int{0}},
		{"loadb r0, r1, 0", registers(0, 0, 127), 1, []int{0, 1}}, {"loadb r0, r1, 0", registers(0, 0, 4096), 1, []int{0}}, {"loadb r0, r1, 0", registers(0, 0, 4095), 1, []int{0, 63}},
		{"store r0, r1, 0", registers(0, 0, 125), 1, []int{0, 1, 2}}, {"store r0, r1, 0", registers(0, 0, 0xffffffff), 1, []int{0}}, {"store r0, r1, 0", registers(0, 0, 189), 1, []int{0, 2}},
		{"storeb r0, r1, 0", registers(0, 0, 127), 1, []int{0, 1}}, {"storeb r0, r1, 0", registers(0, 0, 200), 1, []int{0, 3}}, {"storeb r0, r1, 0", registers(0, 0, 5000), 1, []int{0}},
	} {
		var log []int
		m := space.New(func(page int) (string, bool) {
			log = append(log, page)
			return map[int]string{0: code(x.text)}[page], page < 2
		})
		if _, e := cpu.Run(x.r, m, x.budget); e != api.OK || !slices.Equal(log, x.want) {
			t.Errorf("%q: Run(%v, %d): %d, has needed %v; want %v", x.text, x.r, x.budget, e, log, x.want)
		}
	}
}

// P19.3
func TestResumeAndInterrupt(t *testing.T) {
	r := registers(100, 1, 2, 3, 4, 5, 6, 7, 8)
	if got := cpu.Resume(r, 0xfffffff7); got != registers(104, 0xfffffff7, 2, 3, 4, 5, 6, 7, 8) {
		t.Errorf("Resume = %v", got)
	}
	if got := cpu.Interrupt(r, 0xfffffff7); got != registers(0xfffffff7, 1, 2, 3, 4, 5, 6, 7, 100) {
		t.Errorf("Interrupt = %v", got)
	}
	if got := cpu.Resume(registers(0xfffffffe, 1), 0); got != registers(2) {
		t.Errorf("Resume at the end of the addresses = %v", got)
	}
	if r != registers(100, 1, 2, 3, 4, 5, 6, 7, 8) {
		t.Errorf("the argument has changed: %v", r)
	}
	// A handler goes back with the register 7.
	m := program(t, "set r1, 1\nset r2, 2\nhalt\nset r3, 3\nback r7")
	x, _ := cpu.Run(cpu.Registers{}, m, 1)
	want := cpu.Result{Registers: registers(8, 0, 1, 2, 3, 0, 0, 0, 4), Why: cpu.Halt, Executed: 3}
	if got, e := cpu.Run(cpu.Interrupt(x.Registers, 12), m, 100); got != want || e != api.OK {
		t.Errorf("Run after Interrupt = %v, %d; want %v", got, e, want)
	}
}

// P19.4
func TestTrace(t *testing.T) {
	m := program(t, "set r1, 3\naddi r1, r1, -1\nstoreb r1, r2, 60\njumpnz r1, 4\ncall r6, 28\nhalt\nhalt\nback r6")
	before := m.Fork()
	pcs := func(budget int) []uint32 {
		var l []uint32
		for pc, i := range cpu.Trace(cpu.Registers{}, m, budget) {
			if w, e := m.Word(int(pc)); e != api.OK || !sameWord(i, w) {
				t.Errorf("Trace yields %v at %d", i, pc)
			}
			l = append(l, pc)
		}
		return l
	}
	all := []uint32{0, 4, 8, 12, 4, 8, 12, 4, 8, 12, 16, 28}
	for budget := range 20 {
		if got := pcs(budget); !slices.Equal(got, all[:min(budget, len(all))]) {
			t.Errorf("Trace with the budget %d = %v", budget, got)
		}
	}
	if !m.Equal(before) || space.Shared(m, before) != 2 {
		t.Error("Trace has changed the memory")
	}
	// It ends when yield returns false.
	count := 0
	cpu.Trace(cpu.Registers{}, m, 100)(func(uint32, instr.Instr) bool {
		count++
		return count < 5
	})
	if count != 5 {
		t.Errorf("yield was called %d times", count)
	}
}

func sameWord(i instr.Instr, w uint32) bool {
	b, e := instr.Encode(i)
	return e == api.OK && b == [4]byte{byte(w), byte(w >> 8), byte(w >> 16), byte(w >> 24)}
}

// P19.4: the copy is made when an iteration begins, and not changed with the memory.
func TestTraceCopies(t *testing.T) {
	asked := 0
	text, _ := program(t, "addi r0, r0, 1\naddi r0, r0, 1\nhalt").Page(0)
	m := space.New(func(page int) (string, bool) {
		asked++
		return text, page == 0
	})
	trace := cpu.Trace(cpu.Registers{}, m, 100)
	if asked != 0 {
		t.Errorf("Trace has asked for %d pages before an iteration", asked)
	}
	count := func() (n int) {
		for range trace {
			n++
			m.SetWord(4, 0)
		}
		return n
	}
	if n := count(); n != 2 || asked != 64 {
		t.Errorf("the first iteration yields %d instructions and asks for %d pages", n, asked)
	}
	if n := count(); n != 1 || asked != 64 {
		t.Errorf("the second iteration yields %d instructions and asks for %d pages", n, asked)
	}
}

// P19.6: two runs are the same as one with both budgets, and an end is followed by the same end.
func TestBudgets(t *testing.T) {
	text := "set r1, 6\naddi r2, r2, 4032\nstore r1, r2, 0\naddi r2, r2, -4030\nadd r3, r3, r1\naddi r1, r1, -1\njumpnz r1, 4\ntrap 9"
	for x := range 45 {
		for y := range 45 {
			m, o := program(t, text), program(t, text)
			first, _ := cpu.Run(cpu.Registers{}, m, x)
			second, _ := cpu.Run(first.Registers, m, y)
			want, _ := cpu.Run(cpu.Registers{}, o, x+y)
			second.Executed += first.Executed
			if y == 0 {
				// With the budget 0, it is not found out that execution ends.
				second = first
			}
			if second != want || !m.Equal(o) {
				t.Errorf("%d and %d: %v; want %v", x, y, second, want)
			}
		}
	}
}

// P16: after a fork, both processes compute what they would compute on copies of the whole memory.
func TestForkedProcesses(t *testing.T) {
	m := program(t, "set r2, 4032\nload r1, r2, 0\nadd r1, r1, r0\nstore r1, r2, 0\naddi r3, r3, 1\njump 4")
	x, _ := cpu.Run(registers(0, 3), m, 17)
	parent, child := x.Registers, x.Registers
	child.R[0] = 1000
	forked, parentCopy, childCopy := m.Fork(), fullCopy(m), fullCopy(m)
	wantParent, _ := cpu.Run(parent, parentCopy, 63)
	wantChild, _ := cpu.Run(child, childCopy, 63)
	for _, budget := range []int{1, 2, 3, 7, 50} {
		x, _ = cpu.Run(parent, m, budget)
		parent = x.Registers
		x, _ = cpu.Run(child, forked, budget)
		child = x.Registers
	}
	if parent != wantParent.Registers || !m.Equal(parentCopy) {
		t.Errorf("the parent has %v; want %v", parent, wantParent.Registers)
	}
	if child != wantChild.Registers || !forked.Equal(childCopy) || forked.Equal(m) {
		t.Errorf("the child has %v; want %v", child, wantChild.Registers)
	}
}

// fullCopy returns a space with the same pages that shares none of them.
func fullCopy(m *space.Space) *space.Space {
	c := space.New(nil)
	for _, page := range m.Pages() {
		bytes, _ := m.Page(page)
		c.Map(page, bytes)
	}
	return c
}
