package asm_test

import (
	"fmt"
	"math/rand/v2"
	"slices"
	"strings"
	"testing"

	"replevin/api"
	"replevin/asm"
	"replevin/instr"
)

// P17.2: the examples of the chapter, and one with everything.
func TestAssemble(t *testing.T) {
	for _, x := range []struct {
		s    string
		want asm.Program
	}{
		{"set r1, x\n.data\nx: .byte 5", asm.Program{Code: []instr.Instr{{Op: instr.Set, A: 1, C: 64}}, Data: "\x05", Labels: []asm.Label{{Name: "x", Data: true}}}},
		{"halt", asm.Program{Code: []instr.Instr{{}}}},
		{"\n\n;\n\thalt ; end\n", asm.Program{Code: []instr.Instr{{}}}},
		{"a: b :\nc:halt", asm.Program{Code: []instr.Instr{{}}, Labels: []asm.Label{{Name: "a"}, {Name: "b"}, {Name: "c"}}}},
		{"move r1,r2\nadd r0 , r7,r3\naddi r1, r2, -5\nhigh r4, 0xffff\njump 0\njumpz r5, 4\nback r6\ntrap 9\nload r1, r2, 0x10\nhalt", asm.Program{Code: []instr.Instr{{Op: 1, A: 1, B: 2}, {Op: 4, B: 7, C: 3}, {Op: 16, A: 1, B: 2, C: -5}, {Op: 3, A: 4, C: 65535}, {Op: 21}, {Op: 22, A: 5, C: 4}, {Op: 25, A: 6}, {Op: 26, C: 9}, {Op: 17, A: 1, B: 2, C: 16}, {}}}},
		{"halt\n.data\n.word 258, -1, 4294967295, -2147483648, 0xfedcba98, e\n.code\ne: halt", asm.Program{Code: []instr.Instr{{}, {}}, Data: "\x02\x01\x00\x00\xff\xff\xff\xff\xff\xff\xff\xff\x00\x00\x00\x80\x98\xba\xdc\xfe\x04\x00\x00\x00", Labels: []asm.Label{{Name: "e", Offset: 4}}}},
		{"halt\n.data\n.byte 0, 255, -128, -1\n.space 3\n.text \"a,b;:\\n\\t\\0\\\\\\\"\\x7f\\xff\"\n.space 0\n.text \"\"", asm.Program{Code: []instr.Instr{{}}, Data: "\x00\xff\x80\xff\x00\x00\x00a,b;:\n\t\x00\\\"\x7f\xff"}},
		{".entry main\n.zero 7\nhalt\nmain: halt\n", asm.Program{Code: []instr.Instr{{}, {}}, Zero: 7, Entry: 4, Labels: []asm.Label{{Name: "main", Offset: 4}}}},
		// A label of a line that begins the data belongs to the code.
		{"halt\nx: .data\ny: .code\nz: .entry 0", asm.Program{Code: []instr.Instr{{}}, Labels: []asm.Label{{Name: "x", Offset: 4}, {Name: "z", Offset: 4}, {Name: "y", Data: true}}}},
		// Parts of the code and of the data alternate.
		{".data\nb: .byte 1\n.code\na: halt\n.data\nc: .byte 2\n.code\nd: jump c", asm.Program{Code: []instr.Instr{{}, {Op: 21, C: 65}}, Data: "\x01\x02", Labels: []asm.Label{{Name: "a"}, {Name: "d", Offset: 4}, {Name: "b", Data: true}, {Name: "c", Data: true, Offset: 1}}}},
		// The words of operations and of forms like numbers are names of labels.
		{"halt: jump halt\nset: set r1, set\nr8: R1: e5: jump e5", asm.Program{Code: []instr.Instr{{Op: 21}, {Op: 2, A: 1, C: 4}, {Op: 21, C: 8}}, Labels: []asm.Label{{Name: "halt"}, {Name: "set", Offset: 4}, {Name: "R1", Offset: 8}, {Name: "e5", Offset: 8}, {Name: "r8", Offset: 8}}}},
	} {
		p, line, e := asm.Assemble(x.s)
		if !same(p, x.want) || line != 0 || e != api.OK {
			t.Errorf("Assemble(%q) = %v, %d, %d; want %v", x.s, p, line, e, x.want)
		}
		checkAssemble(t, x.s)
	}
}

// P17.2: the first error of a line, in the order of the chapter.
func TestErrorsOfLines(t *testing.T) {
	for want, l := range map[api.Errno][]string{
		api.ErrByte: {"$", "halt $", "halt \"a", "halt \"", "\"a\\q\"", "\"\\x4\"", "\"\\x4g\"", "\"\\xFF\"", "\"\\", "\"\\\"", "\"a;b", "\"\x1f\"", "\"\x7f\"", "\"\xff\"", "\"\t\"", "'a'", "\r", "halt\r", "\x00", "\xc3\xa4: halt", "halt #", "a b: $", "r1: stop $", "a = 5", "halt (", "+5", "halt \"a\" \\", "\"\\xg4\"", "\"\\x", "\"\\x4", "\"\\x41", "\"\\n",
			// A string with an error is one although the rest of the line could be read in another way.
			"stop \"\t\" ; \"", "stop \";\\q\"", "stop \";\\x4g\"", "stop \";\x7f\""},
		api.ErrSyntax: {"a b:", ":", ": halt", "a::", "a: :", ",", "halt,", "halt , r1", "\"a\"", "a: \"a\"", "\"a\": halt", "jump a b", "jump a,", "jump , a", "jump a,, b", "jump a, b,", "jump a: b", "r1: r2: stop stop stop", "5: stop 1 2", "stop \"a\" \"b\"", "jump \"a\"\"b\"", "a: b: halt c:", "stop ,", "stop a, :", ".byte 1, :", "a: stop b, :, c", "stop :,",
			"halt r1", "halt 0", "move r1", "move r1, r2, r3", "jump", "jump a, 1", "set r1", "back", "trap 1, 2", ".code 1", ".data x", ".data \"\"", ".entry", ".entry 1, 2", ".entry \"a\"", ".zero", ".zero 1, 1", ".zero \"a\"", "set r1, \"a\"", "set \"a\", 1", "move \"a\", r1", "add r1, r2", "halt \"a\"",
			"set r8, 1", "set 1, 1", "set x, 1", "set R1, 1", "set r01, 1", "set -1, 99999", "move r1, 2", "move r1, x", "add r1, r2, 5", "add r1, r2, x", "addi r1, 2, 3", "back x", "jumpz 0, 0", "set rx, 5x", "set r, -32769", "set r-1, 1", "set r9, 1", "set r., 1", "set r-, 1", "set r_, 1"},
		api.ErrName:      {"r1: halt", "5: halt", "a-b: halt", "-: halt", ".a: halt", "a: r7: a: halt", strings.Repeat("a", 33) + ": halt", "r1: stop", "r0:", "0x5:", "-1: jump r1, 2", ".data: halt", "5a: r1: stop"},
		api.ErrDuplicate: {"a: a: halt", "a: b: a: r1: stop", "a: a: jump 1, 2", "_: _:"},
		api.ErrKind:      {"stop", "HALT", "halt.", ".halt", "5", "r1", ".word.", "Halt", "stop \"a\", 5", ".", "-", "word 5", ".DATA", "a: stop"},
		api.ErrState:     {".byte 5", ".word 5", ".text \"a\"", ".space 5", ".byte", ".byte \"a\"", ".word 5x", ".text 5", ".space x", ".space 5000"},
		api.ErrFormat:    {"set r1, 5x", "set r1, 0x", "set r1, 0xA", "set r1, 0x123456789", "set r1, 12345678901", "set r1, -12345678901", "set r1, -0x1", "set r1, --1", "set r1, -", "set r1, -a", "set r1, 5a", "set r1, 0x5g", "set r1, 0x-5", "set r1, 0_0", "set r1, 0x_1", "set r1, -00000000001", "set r1, 1-", "set r1, a-b", "set r1, r2", "set r1, .x", "set r1, 1.5", "jump r0", "jump 5a", "trap -x", ".entry 5x", ".entry r1", ".zero x", ".zero 5x", ".zero a", ".zero r1", ".zero -", "jump " + strings.Repeat("a", 33)},
		api.ErrRange:     {"set r1, 32768", "set r1, -32769", "set r1, 0x8000", "set r1, 9999999999", "high r1, -1", "high r1, 65536", "jump -1", "jump 4096", "call r1, 4096", "trap 256", "trap -1", "addi r1, r1, 32768", "storeb r1, r1, -32769", ".zero -1", ".zero 4097", ".zero 0xffffffff"},
	} {
		for _, s := range l {
			for _, before := range []string{"", "halt\n", "b1: jump nowhere\n\n; comment\n"} {
				wantLine := strings.Count(before, "\n") + 1
				p, line, e := asm.Assemble(before + s + "\n$ stop")
				if !same(p, asm.Program{}) || line != wantLine || e != want {
					t.Errorf("Assemble(%q) = %v, %d, %d; want %d, %d", before+s, p, line, e, wantLine, want)
				}
			}
			if _, _, e := assembled(s); e != want {
				t.Errorf("the model's error for %q is %d; want %d", s, e, want)
			}
		}
	}
}

// P17.2: likewise, in the data.
func TestErrorsOfData(t *testing.T) {
	for want, l := range map[api.Errno][]string{
		api.ErrSyntax: {".byte", ".word", ".text", ".space", ".text 5", ".text x", ".text \"a\", \"b\"", ".byte \"a\"", ".byte 1, \"a\"", ".byte 5x, \"a\"", ".word \"a\", 1", ".word 99999999999, \"a\"", ".space \"a\"", ".space 1, 2", ".byte 1 2", ".byte 1,", ".byte ,1"},
		api.ErrState:  {"halt", "jump", "jump \"a\"", "set r8, 1", "add 1, 2, 3"},
		api.ErrFormat: {".byte x", ".byte 5x", ".byte 1, x, 256", ".byte 12345678901", ".space x", ".space 0x", ".space -", ".word 5x", ".word r1", ".word x, 0xg, 4294967296", ".word -0x1", ".word a-b", ".word 1, .x"},
		api.ErrRange:  {".byte 256", ".byte -129", ".byte 256, x", ".byte 0, 0x100", ".space -1", ".space 4097", ".word 4294967296", ".word -2147483649", ".word 1, x, 9999999999"},
		api.ErrLimit:  {".space 4096\n.byte 1", ".space 4094\n.word 1", ".space 4095\n.text \"ab\"", ".space 4096\n.space 1", ".byte 0\n.space 4096", ".word 1, x\n.space 4093"},
	} {
		for _, s := range l {
			wantLine := 3 + strings.Count(s, "\n")
			p, line, e := asm.Assemble("halt\n.data\n" + s + "\n$")
			if !same(p, asm.Program{}) || line != wantLine || e != want {
				t.Errorf("Assemble of the data %q = %v, %d, %d; want %d, %d", s, p, line, e, wantLine, want)
			}
			if _, _, e := assembled("halt\n.data\n" + s); e != want {
				t.Errorf("the model's error for %q is %d; want %d", s, e, want)
			}
		}
	}
}

// P17.2: errors that concern more than one line.
func TestErrorsOfTexts(t *testing.T) {
	for _, x := range []struct {
		s    string
		line int
		want api.Errno
	}{
		{"", 0, api.ErrRange}, {"\n", 0, api.ErrRange}, {".data\n.byte 1", 0, api.ErrRange}, {"x:", 0, api.ErrRange},
		{".entry 4\nhalt", 0, api.ErrRange}, {".entry -4\nhalt", 0, api.ErrRange}, {".entry 2\nhalt\nhalt", 0, api.ErrRange}, {"halt\n.entry 9999999999", 0, api.ErrRange}, {"halt\n.entry -9999999999", 0, api.ErrRange}, {"halt\nx: .entry x", 0, api.ErrRange}, {"halt\n.data\nx: .entry x", 0, api.ErrRange},
		{"a: halt\nb: halt\na: halt", 3, api.ErrDuplicate}, {"a: halt\n.data\na:", 3, api.ErrDuplicate},
		{".zero 1\n.zero 1", 2, api.ErrState}, {".zero 1\n.zero", 2, api.ErrState}, {".zero 0\n\n.zero 0", 3, api.ErrState}, {".entry 0\n.entry \"a\"", 2, api.ErrState}, {".entry x\n.entry x", 2, api.ErrState}, {".entry 0\n.zero 0\n.entry 0", 3, api.ErrState}, {".data\n.entry 0\n.code\n.entry 0", 4, api.ErrState},
		{"halt\n.data\nhalt", 3, api.ErrState}, {".data\n.byte 1\n.code\n.byte 1", 4, api.ErrState},
		{"jump b", 1, api.ErrUnknown}, {"halt\njump x\njump y", 2, api.ErrUnknown}, {"halt\n.data\n.word 1, x", 3, api.ErrUnknown}, {".entry x\nhalt", 1, api.ErrUnknown}, {"jump X\nx:", 1, api.ErrUnknown},
		// An error of a line comes before the use of labels in lines before it.
		{"jump x\n$", 2, api.ErrByte}, {"jump x\nhalt\njump 4096", 3, api.ErrRange}, {"jump x\n.data\n.space 4096\n.byte 1", 4, api.ErrLimit},
		{"trap x\n.data\n.space 192\nx:", 1, api.ErrRange}, {"halt\ntrap x\ntrap y\n.data\n.space 192\nx:", 2, api.ErrRange}, {"trap y\ntrap x\n.data\n.space 192\nx:", 1, api.ErrUnknown}, {"trap x\ntrap y\n.data\n.space 192\nx:", 1, api.ErrRange},
		{"jump x\n.data\n.space 4032\nx:", 1, api.ErrRange}, {"set r1, x\n.data\n.space 4033\nx:", 0, api.ErrLimit}, {"jump x\n.data\n.space 4096\nx:", 1, api.ErrRange},
		{"halt\n.data\n.space 4096", 0, api.ErrLimit}, {"halt\n.data\n.space 4033", 0, api.ErrLimit}, {"halt\n.zero 4033", 0, api.ErrLimit}, {"halt\n.data\n.space 4000\n.zero 33", 0, api.ErrLimit}, {"halt\n.data\n.space 4032\n.entry 4", 0, api.ErrRange}, {"halt\n.data\n.space 4033\n.entry 4", 0, api.ErrLimit},
	} {
		p, line, e := asm.Assemble(x.s)
		if !same(p, asm.Program{}) || line != x.line || e != x.want {
			t.Errorf("Assemble(%q) = %v, %d, %d; want %d, %d", x.s, p, line, e, x.line, x.want)
		}
		checkAssemble(t, x.s)
	}
	for _, s := range []string{"halt\n.data\n.space 4032", "halt\n.zero 4032", "set r1, x\n.data\n.space 4032\nx:", "trap x\n.data\n.space 191\nx:", "jump x\n.data\n.space 4031\nx:"} {
		if _, e := checkAssemble(t, s); e != api.OK {
			t.Errorf("Assemble(%q): %d", s, e)
		}
	}
}

// P17.2
func TestLimitsOfTexts(t *testing.T) {
	fits := "halt;" + strings.Repeat("x", asm.MaxSource-5)
	if p, line, e := asm.Assemble(fits); len(p.Code) != 1 || line != 0 || e != api.OK {
		t.Errorf("MaxSource bytes: %d, %d", line, e)
	}
	for _, s := range []string{fits + "x", "$\n" + fits, strings.Repeat("$", asm.MaxSource+1)} {
		if p, line, e := asm.Assemble(s); !same(p, asm.Program{}) || line != 0 || e != api.ErrLong {
			t.Errorf("%d bytes: %d, %d; want ErrLong", len(s), line, e)
		}
	}
	code := strings.Repeat("halt\n", 1024)
	if p, _, e := asm.Assemble(code); len(p.Code) != 1024 || p.DataAt() != 4096 || e != api.OK {
		t.Errorf("1024 instructions: %d", e)
	}
	for s, want := range map[string]api.Errno{"halt": api.ErrLimit, "set r1, x": api.ErrLimit, "set r1, 32768": api.ErrRange, "r1: halt": api.ErrName, "x: halt $": api.ErrByte} {
		if _, line, e := asm.Assemble(code + s + "\n$"); line != 1025 || e != want {
			t.Errorf("1024 instructions and %q: %d, %d; want %d", s, line, e, want)
		}
	}
	if _, line, e := asm.Assemble(code + ".zero 1"); line != 0 || e != api.ErrLimit {
		t.Errorf("1024 instructions and one byte: %d, %d", line, e)
	}
	var labels strings.Builder
	for i := range asm.MaxLabels {
		fmt.Fprintf(&labels, "l%d:", i)
	}
	p, e := checkAssemble(t, labels.String()+"halt")
	if len(p.Labels) != asm.MaxLabels || e != api.OK {
		t.Errorf("MaxLabels labels: %d, %d", len(p.Labels), e)
	}
	for s, want := range map[string]api.Errno{"x: stop": api.ErrLimit, "r1: x:": api.ErrName, "l5: x:": api.ErrDuplicate, "stop": api.ErrKind, "x: a b c": api.ErrSyntax} {
		for _, between := range []string{"", "\n"} {
			if _, line, e := asm.Assemble(labels.String() + between + s); line != 1+len(between) || e != want {
				t.Errorf("MaxLabels labels and %q: %d, %d; want %d", s, line, e, want)
			}
		}
	}
}

// P17.2, P17.6: programs that Assemble returns are valid, and what Print returns for them yields them.
func TestRandomTexts(t *testing.T) {
	random := rand.New(rand.NewPCG(1, 17))
	counts := map[api.Errno]int{}
	for range 30000 {
		s := someText(random)
		p, e := checkAssemble(t, s)
		counts[e]++
		if e != api.OK {
			continue
		}
		if e := p.Check(); e != api.OK {
			t.Fatalf("Check of the program of %q is %d", s, e)
		}
		for _, l := range p.Labels {
			if l.Data && l.Offset > len(p.Data) {
				t.Fatalf("a label of %q lies behind the data", s)
			}
		}
		printed, e := asm.Print(p)
		again, line, f := asm.Assemble(printed)
		if e != api.OK || f != api.OK || line != 0 || !same(again, p) || !asm.Equal(again, p) {
			t.Fatalf("%q is printed as %q: %d, %d, %d", s, printed, e, line, f)
		}
	}
	for _, e := range []api.Errno{api.OK, api.ErrByte, api.ErrSyntax, api.ErrName, api.ErrDuplicate, api.ErrKind, api.ErrState, api.ErrFormat, api.ErrRange, api.ErrUnknown, api.ErrLimit} {
		if counts[e] < 20 {
			t.Errorf("the error %d occurs %d times", e, counts[e])
		}
	}
}

// P17.6: blanks, comments and lines without tokens do not matter.
func TestBlanksAndComments(t *testing.T) {
	random := rand.New(rand.NewPCG(2, 17))
	plain := "main:\nset r1,-3\nloop:jumpnz r1,loop\nhalt\n.data\nx:.text \"a b\"\n.byte 1,2\n.zero 5\n.entry loop"
	want, _, _ := asm.Assemble(plain)
	for range 500 {
		var b strings.Builder
		for _, line := range strings.Split(plain, "\n") {
			for random.IntN(3) == 0 {
				b.WriteString(pick(random, "\n", " \t\n", "; x: \"\n", "\t;\n"))
			}
			line = strings.NewReplacer(",", pick(random, ",", " ,", ", ", "\t,\t"), ":", pick(random, ":", " :", ": ", "  :\t")).Replace(line)
			b.WriteString(pick(random, "", " ", "\t") + line + pick(random, "", " ", ";", " ; halt", "\t;\";\xff\r") + "\n")
		}
		if p, line, e := asm.Assemble(b.String()); !same(p, want) || line != 0 || e != api.OK {
			t.Fatalf("Assemble(%q) = %v, %d, %d", b.String(), p, line, e)
		}
	}
}

// P17.6
func TestProgramsAreNew(t *testing.T) {
	s := "a: halt\nb: set r1, a"
	p, _, _ := asm.Assemble(s)
	q, _, _ := asm.Assemble(s)
	clear(p.Code)
	clear(p.Labels)
	if !slices.Equal(q.Code, []instr.Instr{{}, {Op: instr.Set, A: 1}}) || !slices.Equal(q.Labels, []asm.Label{{Name: "a"}, {Name: "b", Offset: 4}}) {
		t.Errorf("two results share memory: %v", q)
	}
}
