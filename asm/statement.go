package asm

import (
	"math"
	"strconv"
	"strings"

	"replevin/api"
	"replevin/instr"
)

// The limits of the numbers in the data.
const (
	minWord = -1 << 31
	maxWord = 1<<32 - 1
	minByte = -128
	maxByte = 255
)

// The greatest numbers of digits.
const (
	decimalDigits = 10
	hexDigits     = 8
)

// fields has the fields that are operands in each form, where n is the number in the field C.
var fields = [...]string{
	instr.FormNone: "",
	instr.FormA:    "A",
	instr.FormAB:   "AB",
	instr.FormABC:  "ABC",
	instr.FormAN:   "An",
	instr.FormABN:  "ABn",
	instr.FormN:    "n",
}

// statement adds what a statement with operands means to a program.
type statement func(operands []token) api.Errno

// allStatements returns the statements by their words.
func (a *assembler) allStatements() map[string]statement {
	all := map[string]statement{
		".word":  a.words,
		".byte":  a.bytes,
		".text":  a.text,
		".space": a.space,
		".code":  a.section(false),
		".data":  a.section(true),
		".entry": a.entry,
		".zero":  a.zero,
	}
	for op := range instr.NumOps {
		all[instr.Word(op)] = func(operands []token) api.Errno { return a.instruction(op, operands) }
	}
	return all
}

func (a *assembler) instruction(op int, operands []token) api.Errno {
	form, _ := instr.Form(op)
	switch {
	case a.inData:
		return api.ErrState
	case !areWords(operands, len(fields[form]), len(fields[form])):
		return api.ErrSyntax
	}
	at := len(a.program.Code)
	a.program.Code = append(a.program.Code, instr.Instr{Op: op})
	for i, field := range fields[form] {
		if e := a.operand(at, field, operands[i].text); e != api.OK {
			return e
		}
	}
	return a.checkSize()
}

// operand gives a field of an instruction its value. The instruction is found by its index, as its place in memory changes while the code grows.
func (a *assembler) operand(at int, field rune, word string) api.Errno {
	i := &a.program.Code[at]
	if field == 'n' {
		low, high, _ := instr.Limits(i.Op)
		return a.value(word, low, high, func(n int) { a.program.Code[at].C = n })
	}
	n, is := register(word)
	if !is {
		return api.ErrSyntax
	}
	switch field {
	case 'A':
		i.A = n
	case 'B':
		i.B = n
	case 'C':
		i.C = n
	}
	return api.OK
}

func (a *assembler) words(operands []token) api.Errno {
	if e := a.checkData(operands); e != api.OK {
		return e
	}
	for _, operand := range operands {
		at := len(a.data)
		a.data = append(a.data, 0, 0, 0, 0)
		if e := a.value(operand.text, minWord, maxWord, func(n int) { a.setWord(at, n) }); e != api.OK {
			return e
		}
	}
	return a.checkSize()
}

func (a *assembler) setWord(at, n int) {
	for i := range 4 {
		a.data[at+i] = byte(n >> (8 * i))
	}
}

func (a *assembler) bytes(operands []token) api.Errno {
	if e := a.checkData(operands); e != api.OK {
		return e
	}
	for _, operand := range operands {
		if e := numberWithin(operand, minByte, maxByte, func(n int) { a.data = append(a.data, byte(n)) }); e != api.OK {
			return e
		}
	}
	return a.checkSize()
}

// checkData returns the error of a statement of the data with one or more words.
func (a *assembler) checkData(operands []token) api.Errno {
	switch {
	case !a.inData:
		return api.ErrState
	case !areWords(operands, 1, MaxSource):
		return api.ErrSyntax
	}
	return api.OK
}

func (a *assembler) text(operands []token) api.Errno {
	switch {
	case !a.inData:
		return api.ErrState
	case len(operands) != 1 || operands[0].kind != aString:
		return api.ErrSyntax
	}
	a.data = append(a.data, operands[0].text...)
	return a.checkSize()
}

func (a *assembler) space(operands []token) api.Errno {
	switch {
	case !a.inData:
		return api.ErrState
	case !areWords(operands, 1, 1):
		return api.ErrSyntax
	}
	e := numberWithin(operands[0], 0, MaxMemory, func(n int) { a.data = append(a.data, make([]byte, n)...) })
	if e != api.OK {
		return e
	}
	return a.checkSize()
}

// section returns the statement after which lines belong to the code or to the data.
func (a *assembler) section(data bool) statement {
	return func(operands []token) api.Errno {
		if len(operands) > 0 {
			return api.ErrSyntax
		}
		a.inData = data
		return api.OK
	}
}

func (a *assembler) entry(operands []token) api.Errno {
	switch {
	case a.hadEntry:
		return api.ErrState
	case !areWords(operands, 1, 1):
		return api.ErrSyntax
	}
	a.hadEntry = true
	return a.value(operands[0].text, math.MinInt, math.MaxInt, func(n int) { a.program.Entry = n })
}

func (a *assembler) zero(operands []token) api.Errno {
	switch {
	case a.hadZero:
		return api.ErrState
	case !areWords(operands, 1, 1):
		return api.ErrSyntax
	}
	a.hadZero = true
	return numberWithin(operands[0], 0, MaxMemory, func(n int) { a.program.Zero = n })
}

// areWords tells whether operands are words, and whether there is a permitted number of them.
func areWords(operands []token, least, most int) bool {
	for _, operand := range operands {
		if operand.kind != aWord {
			return false
		}
	}
	return len(operands) >= least && len(operands) <= most
}

// numberWithin passes a number within limits to a function.
func numberWithin(operand token, low, high int, set func(n int)) api.Errno {
	n, is := number(operand.text)
	if !is {
		return api.ErrFormat
	}
	return setWithin(n, low, high, set)
}

// number returns the number that a word denotes.
func number(word string) (int, bool) {
	digits, base, most := strings.TrimPrefix(word, "-"), 10, decimalDigits
	if rest, is := strings.CutPrefix(word, "0x"); is {
		digits, base, most = rest, 16, hexDigits
	}
	if len(digits) > most {
		return 0, false
	}
	// ParseInt accepts signs, and other letters than those of the document.
	for i := range len(digits) {
		if !isHex(digits[i]) {
			return 0, false
		}
	}
	n, e := strconv.ParseInt(digits, base, 64)
	if digits != word && base == 10 {
		n = -n
	}
	return int(n), e == nil
}

// register returns the register that a word denotes.
func register(word string) (int, bool) {
	if len(word) != 2 || word[0] != 'r' || word[1] < '0' || word[1] >= '0'+instr.NumRegisters {
		return 0, false
	}
	return int(word[1] - '0'), true
}
