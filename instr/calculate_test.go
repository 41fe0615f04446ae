package instr_test

import (
	"math"
	"math/big"
	"math/rand/v2"
	"testing"

	"replevin/api"
	"replevin/instr"
)

// signed returns the signed number of a word.
func signed(x uint32) *big.Int {
	n := big.NewInt(int64(x))
	if x >= 1<<31 {
		n.Sub(n, big.NewInt(1<<32))
	}
	return n
}

// word returns a number modulo 2^32.
func word(n *big.Int) uint32 {
	return uint32(new(big.Int).Mod(n, big.NewInt(1<<32)).Uint64())
}

// bitwise returns the word whose bits are a function of those of two words.
func bitwise(x, y uint32, f func(a, b uint32) bool) uint32 {
	var z uint32
	for bit := range 32 {
		if f(x>>bit&1, y>>bit&1) {
			z += 1 << bit
		}
	}
	return z
}

func one(is bool) uint32 {
	if is {
		return 1
	}
	return 0
}

// calculated is what an operation calculates from words that permit it.
func calculated(op int, x, y uint32) uint32 {
	a, b, z := signed(x), signed(y), new(big.Int)
	shift := uint(y % 32)
	switch rows[op].word {
	case "add":
		return word(z.Add(a, b))
	case "sub":
		return word(z.Sub(a, b))
	case "mul":
		return word(z.Mul(a, b))
	case "div":
		return word(z.Quo(a, b))
	case "mod":
		quotient := new(big.Int).Quo(a, b)
		return word(z.Sub(a, quotient.Mul(quotient, b)))
	case "and":
		return bitwise(x, y, func(a, b uint32) bool { return a == 1 && b == 1 })
	case "or":
		return bitwise(x, y, func(a, b uint32) bool { return a == 1 || b == 1 })
	case "xor":
		return bitwise(x, y, func(a, b uint32) bool { return a != b })
	case "shl":
		return word(z.Lsh(big.NewInt(int64(x)), shift))
	case "shr":
		return word(z.Rsh(big.NewInt(int64(x)), shift))
	case "less":
		return one(a.Cmp(b) < 0)
	}
	return one(x == y)
}

// P16.4
func TestCalculate(t *testing.T) {
	random := rand.New(rand.NewPCG(3, 16))
	words := []uint32{0, 1, 2, 3, 7, 31, 32, 33, 63, 64, 255, 65535, 65536, 65537, 1<<31 - 1, 1 << 31, 1<<31 + 1, 1<<32 - 33, 1<<32 - 32, 1<<32 - 31, 1<<32 - 7, 1<<32 - 2, 1<<32 - 1}
	for range 60 {
		words = append(words, random.Uint32()>>random.IntN(32))
	}
	for op := 4; op <= 15; op++ {
		for _, x := range words {
			for _, y := range words {
				if y == 0 && (op == instr.Div || op == instr.Mod) {
					continue
				}
				if got, e := instr.Calculate(op, x, y); got != calculated(op, x, y) || e != api.OK {
					t.Fatalf("%s of %d and %d is %d, %d; want %d", rows[op].word, x, y, got, e, calculated(op, x, y))
				}
			}
		}
	}
}

// P16.4: the examples of the chapter.
func TestCalculateExamples(t *testing.T) {
	for _, x := range []struct{ op, x, y, want int }{
		{instr.Div, -7, 2, -3}, {instr.Mod, -7, 2, -1}, {instr.Div, -1 << 31, -1, -1 << 31}, {instr.Mod, -1 << 31, -1, 0}, {instr.Mod, 7, -2, 1}, {instr.Div, 7, -2, -3},
		{instr.Less, -1, 0, 1}, {instr.Less, 0, -1, 0}, {instr.Less, 3, 3, 0}, {instr.Shl, 3, 33, 6}, {instr.Shr, -1, 31, 1}, {instr.Equal, -1, -1, 1}, {instr.Equal, 4, 5, 0},
	} {
		got, e := instr.Calculate(x.op, instr.Unsigned(x.x), instr.Unsigned(x.y))
		if instr.Signed(got) != x.want || e != api.OK {
			t.Errorf("%s of %d and %d is %d, %d; want %d", rows[x.op].word, x.x, x.y, instr.Signed(got), e, x.want)
		}
	}
}

// P16.4
func TestCalculateErrors(t *testing.T) {
	others := append([]int{0, 1, 2, 3, 16, 17, 18, 19, 20, 21, 22, 23, 24, 25, 26}, wrongOperations...)
	for _, op := range others {
		for _, y := range []uint32{0, 1} {
			if z, e := instr.Calculate(op, 5, y); z != 0 || e != api.ErrKind {
				t.Errorf("Calculate(%d, 5, %d) = %d, %d; want ErrKind", op, y, z, e)
			}
		}
	}
	for _, op := range []int{instr.Div, instr.Mod} {
		for _, x := range []uint32{0, 1, 1 << 31, 1<<32 - 1} {
			if z, e := instr.Calculate(op, x, 0); z != 0 || e != api.ErrDivide {
				t.Errorf("Calculate(%d, %d, 0) = %d, %d; want ErrDivide", op, x, z, e)
			}
		}
	}
}

// P16.5
func TestWords(t *testing.T) {
	for x, want := range map[uint32]int{0: 0, 1: 1, 1<<31 - 1: 1<<31 - 1, 1 << 31: -1 << 31, 1<<31 + 1: -1<<31 + 1, 1<<32 - 1: -1} {
		if got := instr.Signed(x); got != want {
			t.Errorf("Signed(%d) = %d; want %d", x, got, want)
		}
	}
	for n, want := range map[int]uint32{0: 0, 5: 5, -1: 1<<32 - 1, 1 << 31: 1 << 31, -1 << 31: 1 << 31, 1<<32 + 5: 5, -1<<32 - 1: 1<<32 - 1, math.MaxInt: 1<<32 - 1, math.MinInt: 0, math.MinInt + 3: 3} {
		if got := instr.Unsigned(n); got != want {
			t.Errorf("Unsigned(%d) = %d; want %d", n, got, want)
		}
	}
	random := rand.New(rand.NewPCG(4, 16))
	for range 10000 {
		n := int(random.Uint64()) >> random.IntN(64)
		x := instr.Unsigned(n)
		if x != word(big.NewInt(int64(n))) || instr.Signed(x) != int(signed(x).Int64()) || instr.Unsigned(instr.Signed(x)) != x {
			t.Fatalf("Unsigned(%d) = %d, Signed = %d", n, x, instr.Signed(x))
		}
	}
}
