package asm_test

import (
	"fmt"
	"math/rand/v2"
	"regexp"
	"slices"
	"strconv"
	"strings"
	"testing"

	"replevin/api"
	"replevin/asm"
	"replevin/instr"
)

const large = int(^uint(0) >> 1)

var (
	tokenPattern  = regexp.MustCompile(`^(?:[A-Za-z0-9_.-]+|"(?:[ !#-\[\]-~]|\\[nt0\\"]|\\x[0-9a-f][0-9a-f])*"|,|:)`)
	numberPattern = regexp.MustCompile(`^(?:-?[0-9]{1,10}|0x[0-9a-f]{1,8})$`)
	labelPattern  = regexp.MustCompile(`^[A-Za-z_][A-Za-z0-9_.]{0,31}$`)
	registerName  = regexp.MustCompile(`^r[0-7]$`)
)

func isLabel(s string) bool { return labelPattern.MatchString(s) && !registerName.MatchString(s) }

// shapes says for each form which operands it has: registers or a value.
var shapes = []string{"", "r", "rr", "rrr", "rv", "rrv", "v"}

// use is a place where a label is used: a field of an instruction, a word of the data, or the entry.
type use struct {
	line, low, high int
	label           string
	in              string // code, data or entry
	at              int
}

// model assembles a text in a plain way.
type model struct {
	p      asm.Program
	inData bool
	seen   map[string]bool // labels, and .entry and .zero
	uses   []use
	line   int
}

// assembled is what Assemble returns for a text that is not too long.
func assembled(s string) (asm.Program, int, api.Errno) {
	m := &model{seen: map[string]bool{}}
	for i, line := range strings.Split(s, "\n") {
		m.line = i + 1
		if e := m.read(line); e != api.OK {
			return asm.Program{}, m.line, e
		}
	}
	for _, u := range m.uses {
		at, e := m.resolve(u)
		if e != api.OK {
			return asm.Program{}, u.line, e
		}
		m.set(u.in, u.at, at)
	}
	slices.SortFunc(m.p.Labels, func(a, b asm.Label) int { return strings.Compare(labelKey(a), labelKey(b)) })
	if e := checked(m.p); e != api.OK {
		return asm.Program{}, 0, e
	}
	return m.p, 0, api.OK
}

// labelKey returns a text whose order is that of labels, if no offset has more than nine digits.
func labelKey(l asm.Label) string { return fmt.Sprintf("%v %09d %s", l.Data, l.Offset, l.Name) }

func (m *model) read(line string) api.Errno {
	var tokens []string
	for line = strings.TrimLeft(line, " \t"); line != "" && line[0] != ';'; line = strings.TrimLeft(line, " \t") {
		token := tokenPattern.FindString(line)
		if token == "" {
			return api.ErrByte
		}
		tokens = append(tokens, token)
		line = line[len(token):]
	}
	var labels, operands []string
	for len(tokens) > 1 && tokens[1] == ":" && isWord(tokens[0]) {
		labels = append(labels, tokens[0])
		tokens = tokens[2:]
	}
	for i, token := range tokens {
		// A word, and then operands with commas between them.
		comma := i > 0 && i%2 == 0
		if comma != (token == ",") || token == ":" || i == 0 && !isWord(token) || comma && i == len(tokens)-1 {
			return api.ErrSyntax
		}
		if i > 0 && !comma {
			operands = append(operands, token)
		}
	}
	for _, name := range labels {
		if e := m.define(name); e != api.OK {
			return e
		}
	}
	if len(tokens) == 0 {
		return api.OK
	}
	return m.statement(tokens[0], operands)
}

func isWord(token string) bool { return token != "," && token != ":" && token[0] != '"' }

func (m *model) define(name string) api.Errno {
	switch {
	case !isLabel(name):
		return api.ErrName
	case m.seen[name]:
		return api.ErrDuplicate
	case len(m.p.Labels) == 1024:
		return api.ErrLimit
	}
	m.seen[name] = true
	at := 4 * len(m.p.Code)
	if m.inData {
		at = len(m.p.Data)
	}
	m.p.Labels = append(m.p.Labels, asm.Label{Name: name, Data: m.inData, Offset: at})
	return api.OK
}

func (m *model) statement(word string, operands []string) api.Errno {
	op := -1
	for i := range 27 {
		if instr.Word(i) == word {
			op = i
		}
	}
	shape := map[string]string{".word": "v+", ".byte": "n+", ".text": "s", ".space": "n", ".code": "", ".data": "", ".entry": "v", ".zero": "n"}
	if op >= 0 {
		form, _ := instr.Form(op)
		shape[word] = shapes[form]
	}
	want, is := shape[word]
	if !is {
		return api.ErrKind
	}
	data := strings.Contains(" .word .byte .text .space ", " "+word+" ")
	if op >= 0 && m.inData || data && !m.inData || (word == ".entry" || word == ".zero") && m.seen[word] {
		return api.ErrState
	}
	if strings.HasSuffix(want, "+") && len(operands) > 0 {
		want = strings.Repeat(want[:1], len(operands))
	}
	if len(want) != len(operands) {
		return api.ErrSyntax
	}
	for i := range operands {
		if isWord(operands[i]) == (want[i] == 's') {
			return api.ErrSyntax
		}
	}
	if op < 0 {
		m.seen[word] = true
	} else {
		m.p.Code = append(m.p.Code, instr.Instr{Op: op})
	}
	for i := range operands {
		if e := m.operand(word, op, i, want[i], operands[i]); e != api.OK {
			return e
		}
	}
	if word == ".code" || word == ".data" {
		m.inData = word == ".data"
	}
	if len(m.p.Code) > 1024 || len(m.p.Data) > 4096 {
		return api.ErrLimit
	}
	return api.OK
}

func (m *model) operand(word string, op, i int, kind byte, text string) api.Errno {
	switch kind {
	case 's':
		s, _ := strconv.Unquote(strings.ReplaceAll(strings.ReplaceAll(text, `\\`, `\x5c`), `\0`, `\x00`))
		m.p.Data += s
		return api.OK
	case 'r':
		if !registerName.MatchString(text) {
			return api.ErrSyntax
		}
		last := &m.p.Code[len(m.p.Code)-1]
		*[]*int{&last.A, &last.B, &last.C}[i] = int(text[1] - '0')
		return api.OK
	}
	u := use{line: m.line, label: text, in: word}
	limits := map[string][2]int{".word": {-1 << 31, 1<<32 - 1}, ".byte": {-128, 255}, ".space": {0, 4096}, ".zero": {0, 4096}, ".entry": {-large, large}}
	u.low, u.high = limits[word][0], limits[word][1]
	if op >= 0 {
		u.in, u.at = "code", len(m.p.Code)-1
		u.low, u.high, _ = instr.Limits(op)
	} else if word == ".word" {
		u.at = len(m.p.Data)
		m.p.Data += "0000"
	}
	if !numberPattern.MatchString(text) {
		if kind == 'n' || !isLabel(text) {
			return api.ErrFormat
		}
		m.uses = append(m.uses, u)
		return api.OK
	}
	n, _ := strconv.ParseInt(strings.TrimPrefix(text, "0x"), map[bool]int{false: 10, true: 16}[strings.HasPrefix(text, "0x")], 64)
	if int(n) < u.low || int(n) > u.high {
		return api.ErrRange
	}
	m.set(u.in, u.at, int(n))
	return api.OK
}

func (m *model) set(in string, at, n int) {
	switch in {
	case "code":
		m.p.Code[at].C = n
	case ".word":
		u := uint32(n)
		m.p.Data = m.p.Data[:at] + string([]byte{byte(u), byte(u >> 8), byte(u >> 16), byte(u >> 24)}) + m.p.Data[at+4:]
	case ".byte":
		m.p.Data += string([]byte{byte(n)})
	case ".space":
		m.p.Data += strings.Repeat("\x00", n)
	case ".entry":
		m.p.Entry = n
	case ".zero":
		m.p.Zero = n
	}
}

func (m *model) resolve(u use) (int, api.Errno) {
	for _, l := range m.p.Labels {
		if l.Name != u.label {
			continue
		}
		at := l.Offset
		if l.Data {
			at += (len(m.p.Code) + 15) / 16 * 64
		}
		if at < u.low || at > u.high {
			return 0, api.ErrRange
		}
		return at, api.OK
	}
	return 0, api.ErrUnknown
}

// checked is what Check returns.
func checked(p asm.Program) api.Errno {
	for _, i := range p.Code {
		if e := i.Check(); e != api.OK {
			return e
		}
	}
	at := (len(p.Code) + 15) / 16 * 64
	if p.Zero < 0 || p.Zero > 4096 || at+len(p.Data)+p.Zero > 4096 || len(p.Labels) > 1024 {
		return api.ErrLimit
	}
	if p.Entry < 0 || p.Entry%4 != 0 || p.Entry/4 >= len(p.Code) {
		return api.ErrRange
	}
	for i, l := range p.Labels {
		last := 4 * len(p.Code)
		if l.Data {
			last = len(p.Data) + p.Zero
		}
		switch {
		case !isLabel(l.Name):
			return api.ErrName
		case l.Offset < 0 || l.Offset > last || !l.Data && l.Offset%4 != 0:
			return api.ErrRange
		case i > 0 && labelKey(p.Labels[i-1]) >= labelKey(l):
			return api.ErrSequence
		}
	}
	for i, l := range p.Labels {
		for _, m := range p.Labels[:i] {
			if m.Name == l.Name {
				return api.ErrDuplicate
			}
		}
	}
	return api.OK
}

func checkAssemble(t *testing.T, s string) (asm.Program, api.Errno) {
	t.Helper()
	want, wantLine, wantError := assembled(s)
	p, line, e := asm.Assemble(s)
	if !same(p, want) || line != wantLine || e != wantError {
		t.Fatalf("Assemble(%q) = %v, %d, %d; want %v, %d, %d", s, p, line, e, want, wantLine, wantError)
	}
	return p, e
}

// same compares two programs without Equal.
func same(a, b asm.Program) bool { return a.Data == b.Data && fmt.Sprint(a) == fmt.Sprint(b) }

// pick returns one of some texts.
func pick(random *rand.Rand, l ...string) string { return l[random.IntN(len(l))] }

// someOperand returns an operand that is permitted by a letter of a shape, or sometimes any other one.
func someOperand(random *rand.Rand, shape byte) string {
	if random.IntN(120) == 0 {
		shape = "rvns"[random.IntN(4)]
	}
	switch shape {
	case 'r':
		if random.IntN(100) == 0 {
			return pick(random, "r8", "r", "r00", "R1", "5", "x", "r-1")
		}
		return "r" + strconv.Itoa(random.IntN(8))
	case 's':
		return asm.Quote(pick(random, "", "a;b", "x: halt", "a\nb\t\x00\\\"", string([]byte{byte(random.IntN(256))}), strings.Repeat("long", random.IntN(20))))
	case 'v':
		if random.IntN(2) == 0 {
			return pick(random, "a", "b", "c", "data1", "_x.y", "halt")
		}
	}
	if random.IntN(60) == 0 {
		return pick(random, "-1", "-129", "256", "4096", "4097", "-32769", "32768", "65536", "9999999999", "0xffffffff", "-2147483648", "-2147483649", "4294967296", "12345678901", "0x123456789", "0x", "-", "0xA", "-0x1", "1a", "a-b", "1.0", "r1")
	}
	return pick(random, "0", "1", "7", "0007", "-0", "100", "0x1f", "255", "0000000003", "4", "0x7f", "120", "2047")
}

// someText returns a text that is a program, or would be one without a few errors.
func someText(random *rand.Rand) string {
	var b strings.Builder
	space := func() string { return pick(random, "", "", " ", "\t", "  ") }
	names := []string{"a", "b", "c", "data1", "_x.y", "halt", "unused", "R1", "r8"}
	inData := false
	for range 1 + random.IntN(12) {
		for random.IntN(4) == 0 && len(names) > 0 {
			i := random.IntN(len(names))
			name := names[i]
			if random.IntN(300) == 0 {
				name = pick(random, "r1", "5", "-", "a-b", ".x")
			}
			b.WriteString(space() + name + space() + ":")
			if random.IntN(100) > 0 {
				names = slices.Delete(names, i, i+1)
			}
		}
		word, shape := someStatement(random, &inData)
		b.WriteString(space() + word)
		for i := range shape {
			if i > 0 && random.IntN(200) > 0 {
				b.WriteString(space() + ",")
			}
			b.WriteString(" " + space() + someOperand(random, shape[i]))
		}
		b.WriteString(space() + pick(random, "", "", "; comment \" $ \xff", ";"))
		if random.IntN(100) == 0 {
			b.WriteString(pick(random, ",", ":", "$", "\"", "\"\\q\"", "\"\\x4\"", "\"\\x4G\"", "\"\x1f\"", "\"\x7f\"", "\r", "x", "r1:", "-:", "5:", "'"))
		}
		b.WriteString("\n")
	}
	return strings.TrimSuffix(b.String(), pick(random, "", "\n"))
}

func someStatement(random *rand.Rand, inData *bool) (word, shape string) {
	switch random.IntN(20) {
	case 0:
		return "", ""
	case 1, 2:
		*inData = !*inData
		return map[bool]string{false: ".code", true: ".data"}[*inData], ""
	case 3:
		return ".zero", "n"
	case 4:
		return ".entry", "v"
	case 5:
		if random.IntN(6) == 0 {
			return pick(random, "stop", ".bytes", "HALT", "5", "r1", "add-", ".text", "halt", ".word", "move"), pick(random, "", "s", "r", "v", "rr", "nn")
		}
	}
	if *inData {
		n := 1 + random.IntN(3)
		k := random.IntN(4)
		return []string{".word", ".byte", ".text", ".space"}[k], []string{strings.Repeat("v", n), strings.Repeat("n", n), "s", "n"}[k]
	}
	op := random.IntN(27)
	form, _ := instr.Form(op)
	return instr.Word(op), shapes[form]
}
