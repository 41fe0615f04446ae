package cpu

import (
	"replevin/api"
	"replevin/instr"
)

// The bytes of a word, and those of all registers and the program counter.
const (
	wordSize    = 4
	encodedSize = (instr.NumRegisters + 1) * wordSize
)

// Encode returns the value of registers, and Decode the registers of a value.
func Encode(r Registers) string {
	b := make([]byte, 0, encodedSize)
	for _, word := range append(r.R[:], r.PC) {
		bytes := wordBytes(word)
		b = append(b, bytes[:]...)
	}
	return string(b)
}

func Decode(s string) (Registers, api.Errno) {
	switch {
	case len(s) < encodedSize:
		return Registers{}, api.ErrShort
	case len(s) > encodedSize:
		return Registers{}, api.ErrLong
	}
	var r Registers
	for register := range r.R {
		r.R[register] = wordAt(s, register)
	}
	r.PC = wordAt(s, len(r.R))
	return r, api.OK
}

// wordBytes returns the bytes of a word, the least significant one first, and wordAt the word at an index of encoded words.
func wordBytes(word uint32) [wordSize]byte {
	return [wordSize]byte{byte(word), byte(word >> 8), byte(word >> 16), byte(word >> 24)}
}

func wordAt(s string, index int) uint32 {
	b := s[index*wordSize:]
	return uint32(b[0]) | uint32(b[1])<<8 | uint32(b[2])<<16 | uint32(b[3])<<24
}
