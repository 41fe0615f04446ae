package instr_test

import (
	"math/rand/v2"
	"slices"
	"testing"

	"replevin/api"
	"replevin/instr"
)

// P16.1
func TestOperations(t *testing.T) {
	if instr.NumOps != len(rows) {
		t.Errorf("NumOps = %d", instr.NumOps)
	}
	for op, want := range rows {
		if form, e := instr.Form(op); form != want.form || e != api.OK {
			t.Errorf("Form(%d) = %d, %d; want %d", op, form, e, want.form)
		}
		wantError := api.ErrArgument
		if uses(op, 'n') {
			wantError = api.OK
		}
		if low, high, e := instr.Limits(op); low != want.low || high != want.high || e != wantError {
			t.Errorf("Limits(%d) = %d, %d, %d; want %d, %d, %d", op, low, high, e, want.low, want.high, wantError)
		}
		if word := instr.Word(op); word != want.word {
			t.Errorf("Word(%d) = %q; want %q", op, word, want.word)
		}
		if found, is := instr.Find(want.word); found != op || !is {
			t.Errorf("Find(%q) = %d, %v; want %d", want.word, found, is, op)
		}
	}
	for _, op := range wrongOperations {
		if form, e := instr.Form(op); form != 0 || e != api.ErrKind {
			t.Errorf("Form(%d) = %d, %d", op, form, e)
		}
		if low, high, e := instr.Limits(op); low != 0 || high != 0 || e != api.ErrKind {
			t.Errorf("Limits(%d) = %d, %d, %d", op, low, high, e)
		}
		if word := instr.Word(op); word != "" {
			t.Errorf("Word(%d) = %q", op, word)
		}
	}
	for _, word := range []string{"", "Halt", "HALT", "halt ", " halt", "hal", "halts", "addi ", "r1", "0", "jumpn", "store b"} {
		if op, is := instr.Find(word); op != 0 || is {
			t.Errorf("Find(%q) = %d, %v", word, op, is)
		}
	}
}

// P16.1: the constants have the numbers of the chapter's table.
func TestConstants(t *testing.T) {
	for word, op := range map[string]int{
		"halt": instr.Halt, "move": instr.Move, "set": instr.Set, "high": instr.High, "add": instr.Add, "sub": instr.Sub, "mul": instr.Mul, "div": instr.Div, "mod": instr.Mod, "and": instr.And, "or": instr.Or, "xor": instr.Xor, "shl": instr.Shl, "shr": instr.Shr, "less": instr.Less, "equal": instr.Equal,
		"addi": instr.AddImm, "load": instr.Load, "store": instr.Store, "loadb": instr.LoadByte, "storeb": instr.StoreByte, "jump": instr.Jump, "jumpz": instr.JumpZero, "jumpnz": instr.JumpNot, "call": instr.Call, "back": instr.Back, "trap": instr.Trap,
	} {
		if rows[op].word != word {
			t.Errorf("the operation %d is %q", op, word)
		}
	}
	forms := []int{instr.FormNone, instr.FormA, instr.FormAB, instr.FormABC, instr.FormAN, instr.FormABN, instr.FormN}
	if !slices.Equal(forms, []int{0, 1, 2, 3, 4, 5, 6}) || instr.Size != 4 || instr.NumRegisters != 8 || instr.MaxAddress != 4095 {
		t.Error(forms)
	}
}

// P16.1, P16.2, P16.6: all combinations of some numbers in the fields.
func TestCheck(t *testing.T) {
	registers := []int{-large - 1, -1, 0, 1, 7, 8, 16, large}
	numbers := []int{-large - 1, -65536, -32769, -32768, -1, 0, 1, 7, 8, 255, 256, 4095, 4096, 32767, 32768, 65535, 65536, large}
	counts := map[api.Errno]int{}
	for _, op := range append([]int{0, 1, 2, 3, 4, 5, 6, 7, 8, 9, 10, 11, 12, 13, 14, 15, 16, 17, 18, 19, 20, 21, 22, 23, 24, 25, 26}, wrongOperations...) {
		for _, a := range registers {
			for _, b := range registers {
				for _, c := range numbers {
					i := instr.Instr{Op: op, A: a, B: b, C: c}
					want := check(i)
					counts[want]++
					if e := i.Check(); e != want {
						t.Fatalf("%v: Check = %d; want %d", i, e, want)
					}
					var wantBytes [4]byte
					if want == api.OK {
						wantBytes = bytesOf(i)
					} else if i.Reads() != nil || i.Writes() != nil {
						t.Fatalf("%v: Reads = %v, Writes = %v", i, i.Reads(), i.Writes())
					}
					if got, e := instr.Encode(i); got != wantBytes || e != want {
						t.Fatalf("Encode(%v) = %v, %d; want %v, %d", i, got, e, wantBytes, want)
					}
				}
			}
		}
	}
	for _, e := range []api.Errno{api.OK, api.ErrKind, api.ErrArgument, api.ErrRange} {
		if counts[e] < 100 {
			t.Errorf("the error %d occurs %d times", e, counts[e])
		}
	}
}

// P16.1
func TestOrderOfErrors(t *testing.T) {
	for _, x := range []struct {
		i    instr.Instr
		want api.Errno
	}{
		{instr.Instr{Op: 27, A: 9, B: 9, C: large}, api.ErrKind}, {instr.Instr{Op: -1, A: -1}, api.ErrKind},
		{instr.Instr{Op: instr.Move, A: 8, C: 1}, api.ErrArgument}, {instr.Instr{Op: instr.Set, A: 8, B: 1, C: 40000}, api.ErrArgument}, {instr.Instr{Op: instr.Jump, B: 1, C: -1}, api.ErrArgument}, {instr.Instr{Op: instr.Back, A: 8, B: 8}, api.ErrArgument}, {instr.Instr{Op: instr.Halt, C: -1}, api.ErrArgument},
		{instr.Instr{Op: instr.Move, A: 8}, api.ErrRange}, {instr.Instr{Op: instr.Back, A: -1}, api.ErrRange}, {instr.Instr{Op: instr.Equal, A: 1, B: 2, C: 8}, api.ErrRange},
	} {
		if e := x.i.Check(); e != x.want {
			t.Errorf("%v: Check = %d; want %d", x.i, e, x.want)
		}
	}
}

// P16.6
func TestReadsAndWrites(t *testing.T) {
	written := []int{1, 2, 3, 4, 5, 6, 7, 8, 9, 10, 11, 12, 13, 14, 15, 16, 17, 19, 24}
	used := []int{3, 18, 20, 22, 23, 25}
	random := rand.New(rand.NewPCG(1, 16))
	for range 20000 {
		i := someInstr(random)
		var reads, writes []int
		for register := range 8 {
			if slices.Contains(used, i.Op) && i.A == register || uses(i.Op, 'B') && i.B == register || uses(i.Op, 'C') && i.C == register {
				reads = append(reads, register)
			}
			if slices.Contains(written, i.Op) && i.A == register {
				writes = append(writes, register)
			}
		}
		if got := i.Reads(); !slices.Equal(got, reads) {
			t.Fatalf("%v: Reads = %v; want %v", i, got, reads)
		}
		if got := i.Writes(); !slices.Equal(got, writes) {
			t.Fatalf("%v: Writes = %v; want %v", i, got, writes)
		}
	}
}

// P16.6, P16.7
func TestRegistersAreNew(t *testing.T) {
	i := instr.Instr{Op: instr.Add, A: 1, B: 5, C: 2}
	reads, writes := i.Reads(), i.Writes()
	reads[0], reads[1], writes[0] = 9, 9, 9
	if !slices.Equal(i.Reads(), []int{2, 5}) || !slices.Equal(i.Writes(), []int{1}) {
		t.Errorf("Reads = %v, Writes = %v", i.Reads(), i.Writes())
	}
}
