package asm_test

import (
	"fmt"
	"math/rand/v2"
	"slices"
	"strings"
	"testing"

	"replevin/api"
	"replevin/asm"
	"replevin/instr"
)

// P17.3
func TestLine(t *testing.T) {
	for want, i := range map[string]instr.Instr{
		"halt": {}, "move r7, r0": {Op: instr.Move, A: 7}, "set r1, -32768": {Op: instr.Set, A: 1, C: -32768}, "high r0, 65535": {Op: instr.High, C: 65535}, "add r1, r2, r3": {Op: instr.Add, A: 1, B: 2, C: 3}, "equal r4, r5, r6": {Op: instr.Equal, A: 4, B: 5, C: 6}, "addi r1, r2, -3": {Op: instr.AddImm, A: 1, B: 2, C: -3}, "storeb r6, r7, 10": {Op: instr.StoreByte, A: 6, B: 7, C: 10},
		"jump 4095": {Op: instr.Jump, C: 4095}, "jumpz r3, 0": {Op: instr.JumpZero, A: 3}, "jumpnz r3, 12": {Op: instr.JumpNot, A: 3, C: 12}, "call r6, 100": {Op: instr.Call, A: 6, C: 100}, "back r6": {Op: instr.Back, A: 6}, "trap 255": {Op: instr.Trap, C: 255},
	} {
		if line, e := asm.Line(i); line != want || e != api.OK {
			t.Errorf("Line(%v) = %q, %d; want %q", i, line, e, want)
		}
	}
	for _, x := range []struct {
		i    instr.Instr
		want api.Errno
	}{{instr.Instr{Op: 27}, api.ErrKind}, {instr.Instr{Op: -1, A: 1}, api.ErrKind}, {instr.Instr{A: 1}, api.ErrArgument}, {instr.Instr{Op: instr.Move, A: 8}, api.ErrRange}, {instr.Instr{Op: instr.Trap, C: 256}, api.ErrRange}} {
		if line, e := asm.Line(x.i); line != "" || e != x.want {
			t.Errorf("Line(%v) = %q, %d; want %d", x.i, line, e, x.want)
		}
	}
}

// P17.3, P17.6: the text of an instruction is assembled to the instruction.
func TestLinesAreAssembled(t *testing.T) {
	for op := range instr.NumOps {
		for registers := range 512 {
			i := instr.Instr{Op: op, A: registers & 7, B: registers >> 3 & 7, C: registers >> 6}
			if form, _ := instr.Form(op); form == instr.FormAN || form == instr.FormABN {
				i.C -= 4
			}
			line, e := asm.Line(i)
			if e != i.Check() {
				t.Fatalf("Line(%v) = %d", i, e)
			}
			if e != api.OK {
				continue
			}
			if p, _, e := asm.Assemble(line); e != api.OK || len(p.Code) != 1 || p.Code[0] != i {
				t.Fatalf("%q is assembled to %v, %d; want %v", line, p.Code, e, i)
			}
		}
	}
}

// P17.4
func TestQuote(t *testing.T) {
	for s, want := range map[string]string{"": `""`, "a": `"a"`, "a b;:,'": `"a b;:,'"`, "\n\t\x00": `"\n\t\0"`, "\\n\"": `"\\n\""`, "\x01\x1f ~\x7f\x80\xff": `"\x01\x1f ~\x7f\x80\xff"`, "\x001\r": `"\01\x0d"`, "ä": `"\xc3\xa4"`} {
		if got := asm.Quote(s); got != want {
			t.Errorf("Quote(%q) = %s; want %s", s, got, want)
		}
	}
	special := map[byte]string{10: `\n`, 9: `\t`, 0: `\0`, '\\': `\\`, '"': `\"`}
	random := rand.New(rand.NewPCG(4, 17))
	for c := range 256 {
		want, is := special[byte(c)]
		if !is && c >= 32 && c <= 126 {
			want = string(rune(c))
		} else if !is {
			want = fmt.Sprintf(`\x%02x`, c)
		}
		if got := asm.Quote(string([]byte{byte(c)})); got != `"`+want+`"` {
			t.Errorf("Quote of the byte %d = %s; want %s", c, got, want)
		}
		s := string([]byte{byte(random.IntN(256)), byte(c), byte('0' + random.IntN(10)), byte(random.IntN(256)), byte(c)})
		if p, _, e := asm.Assemble("halt\n.data\n.text " + asm.Quote(s)); p.Data != s || e != api.OK {
			t.Errorf("%s denotes %q, %d; want %q", asm.Quote(s), p.Data, e, s)
		}
	}
}

// P17.2: all ways to denote a byte in a string.
func TestEscapes(t *testing.T) {
	for c := range 256 {
		s := fmt.Sprintf("halt\n.data\n.text \"\\x%02x\"", c)
		if p, _, e := asm.Assemble(s); p.Data != string([]byte{byte(c)}) || e != api.OK {
			t.Errorf("%q: %q, %d", s, p.Data, e)
		}
		plain := string([]byte{byte(c)})
		p, line, e := asm.Assemble("halt\n.data\n.text \"" + plain + "\"")
		switch {
		case c == '\n':
		case c >= 32 && c <= 126 && c != '"' && c != '\\':
			if p.Data != plain || e != api.OK {
				t.Errorf("the byte %d in a string: %q, %d", c, p.Data, e)
			}
		case e != api.ErrByte || line != 3:
			t.Errorf("the byte %d in a string: %d, %d", c, line, e)
		}
		_, line, e = asm.Assemble("halt\n.data\n.text \"\\" + plain + "\"")
		if is := strings.Contains(`nt0\"`, plain); is && e != api.OK || !is && c != '\n' && (e != api.ErrByte || line != 3) {
			t.Errorf("the escape with the byte %d: %d, %d", c, line, e)
		}
	}
	if p, _, e := asm.Assemble("halt\n.data\n.text \"\\\"\""); p.Data != "\"" || e != api.OK {
		t.Errorf("an escaped quotation mark: %q, %d", p.Data, e)
	}
}

// P17.5
func TestPrint(t *testing.T) {
	bytes := strings.Repeat("0123456789", 10)
	for _, x := range []struct {
		p    asm.Program
		want string
	}{
		{asm.Program{Code: halts(1)}, ".entry 0\n\thalt\n"},
		{asm.Program{Code: halts(2), Zero: 9, Entry: 4}, ".entry 4\n.zero 9\n\thalt\n\thalt\n"},
		{asm.Program{Code: halts(2), Labels: []asm.Label{{Name: "a"}, {Name: "b"}, {Name: "c", Offset: 4}, {Name: "d", Offset: 8}, {Name: "e", Offset: 8}}}, ".entry 0\na:\nb:\n\thalt\nc:\n\thalt\nd:\ne:\n"},
		{asm.Program{Code: halts(1), Labels: []asm.Label{{Name: "a", Data: true}}}, ".entry 0\n\thalt\n.data\na:\n"},
		{asm.Program{Code: halts(1), Data: "a\n"}, ".entry 0\n\thalt\n.data\n\t.text \"a\\n\"\n"},
		{asm.Program{Code: halts(1), Data: bytes[:32]}, ".entry 0\n\thalt\n.data\n\t.text \"" + bytes[:32] + "\"\n"},
		{asm.Program{Code: halts(1), Data: bytes[:65], Labels: []asm.Label{{Name: "end", Offset: 4}}}, ".entry 0\n\thalt\nend:\n.data\n\t.text \"" + bytes[:32] + "\"\n\t.text \"" + bytes[32:64] + "\"\n\t.text \"4\"\n"},
		{asm.Program{Code: halts(1), Data: bytes[:80], Labels: []asm.Label{{Name: "a", Data: true}, {Name: "b", Data: true, Offset: 5}, {Name: "c", Data: true, Offset: 5}, {Name: "d", Data: true, Offset: 38}, {Name: "e", Data: true, Offset: 70}, {Name: "f", Data: true, Offset: 80}}}, ".entry 0\n\thalt\n.data\na:\n\t.text \"01234\"\nb:\nc:\n\t.text \"" + bytes[5:37] + "\"\n\t.text \"7\"\nd:\n\t.text \"" + bytes[38:70] + "\"\ne:\n\t.text \"0123456789\"\nf:\n"},
	} {
		if s, e := asm.Print(x.p); s != x.want || e != api.OK {
			t.Errorf("Print(%v) = %q, %d; want %q", x.p, s, e, x.want)
		}
	}
}

// printed is what Print returns for a program without an error, but for parts of the data, which it collects byte by byte.
func printed(p asm.Program) string {
	var lines []string
	label := func(data bool, offset int) (is bool) {
		for _, l := range p.Labels {
			if l.Data == data && l.Offset == offset {
				lines = append(lines, l.Name+":")
				is = true
			}
		}
		return is
	}
	lines = append(lines, fmt.Sprintf(".entry %d", p.Entry))
	if p.Zero > 0 {
		lines = append(lines, fmt.Sprintf(".zero %d", p.Zero))
	}
	for at := range p.Code {
		label(false, 4*at)
		line, _ := asm.Line(p.Code[at])
		lines = append(lines, "\t"+line)
	}
	label(false, 4*len(p.Code))
	if p.Data != "" || slices.ContainsFunc(p.Labels, func(l asm.Label) bool { return l.Data }) {
		lines = append(lines, ".data")
	}
	part := ""
	write := func() {
		if part != "" {
			lines = append(lines, "\t.text "+asm.Quote(part))
		}
		part = ""
	}
	for at := range len(p.Data) {
		if slices.ContainsFunc(p.Labels, func(l asm.Label) bool { return l.Data && l.Offset == at }) || len(part) == 32 {
			write()
		}
		label(true, at)
		part += p.Data[at : at+1]
	}
	write()
	label(true, len(p.Data))
	return strings.Join(lines, "\n") + "\n"
}

// P17.5, P17.6
func TestPrintRandomPrograms(t *testing.T) {
	random := rand.New(rand.NewPCG(5, 17))
	counts := map[api.Errno]int{}
	for range 10000 {
		p := someProgram(random)
		want := checked(p)
		if want == api.OK && slices.ContainsFunc(p.Labels, func(l asm.Label) bool { return l.Data && l.Offset > len(p.Data) }) {
			want = api.ErrRefused
		}
		counts[want]++
		wantText := ""
		if want == api.OK {
			wantText = printed(p)
		}
		given := fmt.Sprint(p)
		s, e := asm.Print(p)
		if s != wantText || e != want {
			t.Fatalf("Print(%v) = %q, %d; want %q, %d", p, s, e, wantText, want)
		}
		if fmt.Sprint(p) != given {
			t.Fatalf("%s has become %v", given, p)
		}
		if e != api.OK {
			continue
		}
		if again, line, e := asm.Assemble(s); !same(again, p) || line != 0 || e != api.OK {
			t.Fatalf("%q is assembled to %v, %d, %d; want %v", s, again, line, e, p)
		}
	}
	if counts[api.OK] < 1000 || counts[api.ErrRefused] < 100 || counts[api.ErrLimit] < 30 || counts[api.ErrName] < 30 {
		t.Error(counts)
	}
}

// P17.5
func TestPrintErrors(t *testing.T) {
	behind := []asm.Label{{Name: "z", Data: true, Offset: 2}}
	for _, x := range []struct {
		p    asm.Program
		want api.Errno
	}{
		{asm.Program{}, api.ErrRange}, {asm.Program{Code: []instr.Instr{{Op: 27}}}, api.ErrKind}, {asm.Program{Code: halts(1), Zero: -1}, api.ErrLimit}, {asm.Program{Code: halts(1), Labels: []asm.Label{{}}}, api.ErrName},
		{asm.Program{Code: halts(1), Zero: 4, Labels: behind}, api.ErrRefused}, {asm.Program{Code: halts(1), Data: "a", Zero: 1, Labels: behind}, api.ErrRefused}, {asm.Program{Code: halts(1), Data: "ab", Zero: 1, Labels: behind}, api.OK}, {asm.Program{Code: halts(1), Zero: 1, Labels: behind}, api.ErrRange}, {asm.Program{Code: halts(1), Zero: 4, Entry: 4, Labels: behind}, api.ErrRange},
		{asm.Program{Code: halts(1), Zero: 4, Labels: []asm.Label{{Name: "a", Data: true}, {Name: "b", Data: true, Offset: 1}}}, api.ErrRefused},
	} {
		if s, e := asm.Print(x.p); (s == "") != (e != api.OK) || e != x.want {
			t.Errorf("Print(%v) = %q, %d; want %d", x.p, s, e, x.want)
		}
	}
}
