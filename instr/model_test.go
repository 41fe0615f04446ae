package instr_test

import (
	"math/rand/v2"

	"replevin/api"
	"replevin/instr"
)

const large = int(^uint(0) >> 1)

// row is a row of the chapter's table for one operation; fields has the letters of its fields.
type row struct {
	word      string
	form      int
	fields    string
	low, high int
}

var rows = []row{
	{"halt", 0, "", 0, 0}, {"move", 2, "AB", 0, 0}, {"set", 4, "An", -32768, 32767}, {"high", 4, "An", 0, 65535},
	{"add", 3, "ABC", 0, 0}, {"sub", 3, "ABC", 0, 0}, {"mul", 3, "ABC", 0, 0}, {"div", 3, "ABC", 0, 0}, {"mod", 3, "ABC", 0, 0}, {"and", 3, "ABC", 0, 0},
	{"or", 3, "ABC", 0, 0}, {"xor", 3, "ABC", 0, 0}, {"shl", 3, "ABC", 0, 0}, {"shr", 3, "ABC", 0, 0}, {"less", 3, "ABC", 0, 0}, {"equal", 3, "ABC", 0, 0},
	{"addi", 5, "ABn", -32768, 32767}, {"load", 5, "ABn", -32768, 32767}, {"store", 5, "ABn", -32768, 32767}, {"loadb", 5, "ABn", -32768, 32767}, {"storeb", 5, "ABn", -32768, 32767},
	{"jump", 6, "n", 0, 4095}, {"jumpz", 4, "An", 0, 4095}, {"jumpnz", 4, "An", 0, 4095}, {"call", 4, "An", 0, 4095},
	{"back", 1, "A", 0, 0}, {"trap", 6, "n", 0, 255},
}

// wrongOperations are numbers that are not operations.
var wrongOperations = []int{-large - 1, -256, -1, 27, 28, 256, 283, large}

// uses tells whether the form of an operation has a field. C stands for the register and n for the number, both of which are in the field C.
func uses(op int, field byte) bool {
	for i := range rows[op].fields {
		if rows[op].fields[i] == field {
			return true
		}
	}
	return false
}

// check is what Check returns.
func check(i instr.Instr) api.Errno {
	if i.Op < 0 || i.Op > 26 {
		return api.ErrKind
	}
	register := func(n int) bool { return 0 <= n && n <= 7 }
	if !uses(i.Op, 'A') && i.A != 0 || !uses(i.Op, 'B') && i.B != 0 || !uses(i.Op, 'C') && !uses(i.Op, 'n') && i.C != 0 {
		return api.ErrArgument
	}
	if uses(i.Op, 'A') && !register(i.A) || uses(i.Op, 'B') && !register(i.B) || uses(i.Op, 'C') && !register(i.C) {
		return api.ErrRange
	}
	if uses(i.Op, 'n') && (i.C < rows[i.Op].low || i.C > rows[i.Op].high) {
		return api.ErrRange
	}
	return api.OK
}

// bytesOf returns the bytes of an instruction without an error.
func bytesOf(i instr.Instr) [4]byte {
	c := i.C
	if c < 0 {
		c += 65536
	}
	return [4]byte{byte(i.Op), byte(16*i.A + i.B), byte(c % 256), byte(c / 256)}
}

// someInstr returns an instruction without an error.
func someInstr(random *rand.Rand) instr.Instr {
	i := instr.Instr{Op: random.IntN(27)}
	if uses(i.Op, 'A') {
		i.A = random.IntN(8)
	}
	if uses(i.Op, 'B') {
		i.B = random.IntN(8)
	}
	switch {
	case uses(i.Op, 'C'):
		i.C = random.IntN(8)
	case uses(i.Op, 'n'):
		low, high := rows[i.Op].low, rows[i.Op].high
		i.C = []int{low, high, max(low, -1), 0, low + random.IntN(high-low+1)}[random.IntN(5)]
	}
	return i
}
