package instr

import "replevin/api"

// calculation is what an operation calculates from two words.
type calculation func(x, y uint32) uint32

// Calculate returns what the operations from Add to Equal calculate.
func Calculate(op int, x, y uint32) (uint32, api.Errno) {
	calculate := arithmetic(op)
	if calculate == nil {
		calculate = logic(op)
	}
	switch {
	case calculate == nil:
		return 0, api.ErrKind
	case (op == Div || op == Mod) && y == 0:
		return 0, api.ErrDivide
	}
	return calculate(x, y), api.OK
}

// arithmetic returns the calculation of an operation on numbers, or nil. A map of this size that does not leave its function needs no memory of its own, so a processor may call it for each instruction.
func arithmetic(op int) calculation {
	table := map[int]calculation{
		Add: func(x, y uint32) uint32 { return x + y },
		Sub: func(x, y uint32) uint32 { return x - y },
		Mul: func(x, y uint32) uint32 { return x * y },
		// With 64 bits the quotient of -2^31 and -1 has no overflow.
		Div:  func(x, y uint32) uint32 { return Unsigned(Signed(x) / Signed(y)) },
		Mod:  func(x, y uint32) uint32 { return Unsigned(Signed(x) % Signed(y)) },
		Less: func(x, y uint32) uint32 { return truth(Signed(x) < Signed(y)) },
	}
	return table[op]
}

// logic returns the calculation of an operation on bits, or nil.
func logic(op int) calculation {
	table := map[int]calculation{
		And:   func(x, y uint32) uint32 { return x & y },
		Or:    func(x, y uint32) uint32 { return x | y },
		Xor:   func(x, y uint32) uint32 { return x ^ y },
		Shl:   func(x, y uint32) uint32 { return x << (y % 32) },
		Shr:   func(x, y uint32) uint32 { return x >> (y % 32) },
		Equal: func(x, y uint32) uint32 { return truth(x == y) },
	}
	return table[op]
}

func truth(is bool) uint32 {
	if is {
		return 1
	}
	return 0
}

// Signed returns the number from -2^31 on for which a word stands, and Unsigned the word for a number modulo 2^32.
func Signed(x uint32) int { return int(int32(x)) }

func Unsigned(n int) uint32 { return uint32(n) }
