package instr

import "replevin/api"

// Encode returns the bytes of an instruction, and Decode the instruction with bytes.
func Encode(i Instr) ([Size]byte, api.Errno) {
	if e := i.Check(); e != api.OK {
		return [Size]byte{}, e
	}
	return [Size]byte{byte(i.Op), byte(i.A<<4 | i.B), byte(i.C), byte(i.C >> 8)}, api.OK
}

func Decode(b [Size]byte) (Instr, api.Errno) {
	i := Instr{Op: int(b[0]), A: int(b[1] >> 4), B: int(b[1] & 15), C: int(b[2]) | int(b[3])<<8}
	if low, _, e := Limits(i.Op); e == api.OK && low < 0 {
		i.C = int(int16(i.C))
	}
	if i.Check() != api.OK {
		return Instr{}, api.ErrIllegal
	}
	return i, api.OK
}

// EncodeAll returns the bytes of instructions, and DecodeAll the instructions with bytes; with an error they return the index or the offset where it is.
func EncodeAll(l []Instr) (b []byte, at int, e api.Errno) {
	b = make([]byte, 0, Size*len(l))
	for index, i := range l {
		next, e := Encode(i)
		if e != api.OK {
			return nil, index, e
		}
		b = append(b, next[:]...)
	}
	return b, 0, api.OK
}

func DecodeAll(b []byte) (l []Instr, at int, e api.Errno) {
	l = make([]Instr, 0, len(b)/Size)
	for at+Size <= len(b) {
		i, e := Decode([Size]byte(b[at : at+Size]))
		if e != api.OK {
			return nil, at, e
		}
		l = append(l, i)
		at += Size
	}
	if at < len(b) {
		return nil, at, api.ErrTruncated
	}
	return l, 0, api.OK
}
