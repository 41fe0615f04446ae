package cpu_test

import (
	"math/big"
	"math/rand/v2"
	"slices"
	"testing"

	"replevin/api"
	"replevin/cpu"
	"replevin/instr"
	"replevin/space"
)

const large = int(^uint(0) >> 1)

// The model of a processor with its memory, which counts with numbers of any size, reads bytes one by one, and remembers which pages it has needed.
type model struct {
	r       cpu.Registers
	bytes   [4096]byte
	there   [64]bool
	needed  []int
	changed map[int]bool
}

var (
	two32 = new(big.Int).Lsh(big.NewInt(1), 32)
	two31 = new(big.Int).Lsh(big.NewInt(1), 31)
)

// signed returns the signed number of a word, and word the word of a number.
func signed(w uint32) *big.Int {
	n := big.NewInt(int64(w))
	if n.Cmp(two31) >= 0 {
		n.Sub(n, two32)
	}
	return n
}

func word(n *big.Int) uint32 { return uint32(new(big.Int).Mod(n, two32).Uint64()) }

func sum(w uint32, n int) uint32 { return word(new(big.Int).Add(signed(w), big.NewInt(int64(n)))) }

// find needs the pages of n addresses, and tells whether they are accessible.
func (m *model) find(at uint32, n int) bool {
	if int64(at)+int64(n) > 4096 {
		return false
	}
	for i := range n {
		page := (int(at) + i) / 64
		if !slices.Contains(m.needed, page) {
			m.needed = append(m.needed, page)
		}
		if !m.there[page] {
			return false
		}
	}
	return true
}

func (m *model) get(at uint32, n int) (w uint32) {
	for i := range n {
		w += uint32(m.bytes[int(at)+i]) << (8 * i)
	}
	return w
}

func (m *model) put(at uint32, n int, w uint32) {
	for i := range n {
		m.bytes[int(at)+i] = byte(w >> (8 * i))
		m.changed[(int(at)+i)/64] = true
	}
}

// step executes an instruction, or returns why execution ends there.
func (m *model) step() (i instr.Instr, why, number int, address uint32) {
	r, pc := &m.r.R, m.r.PC
	if !m.find(pc, 4) {
		return i, cpu.Fault, 0, pc
	}
	b := m.bytes[pc : pc+4]
	i, e := instr.Decode([4]byte(b))
	if e != api.OK {
		return i, cpu.Illegal, 0, 0
	}
	next := sum(pc, 4)
	switch word := instr.Word(i.Op); word {
	case "halt":
		return i, cpu.Halt, 0, 0
	case "trap":
		return i, cpu.Trap, i.C, 0
	case "move":
		r[i.A] = r[i.B]
	case "set":
		r[i.A] = sum(0, i.C)
	case "high":
		r[i.A] = r[i.A]%65536 + 65536*uint32(i.C)
	case "addi":
		r[i.A] = sum(r[i.B], i.C)
	case "load", "loadb", "store", "storeb":
		at, n := sum(r[i.B], i.C), 4
		if word[len(word)-1] == 'b' {
			n = 1
		}
		if !m.find(at, n) {
			return i, cpu.Fault, 0, at
		}
		if word[0] == 'l' {
			r[i.A] = m.get(at, n)
		} else {
			m.put(at, n, r[i.A])
		}
	case "jump":
		next = uint32(i.C)
	case "jumpz", "jumpnz":
		if (r[i.A] == 0) == (word == "jumpz") {
			next = uint32(i.C)
		}
	case "call":
		r[i.A], next = next, uint32(i.C)
	case "back":
		next = r[i.A]
	default:
		w, divides := calculated(word, r[i.B], r[i.C])
		if divides {
			return i, cpu.Divide, 0, 0
		}
		r[i.A] = w
	}
	m.r.PC = next
	return i, 0, 0, 0
}

// calculated returns what an operation calculates, or whether it divides by 0.
func calculated(operation string, x, y uint32) (uint32, bool) {
	a, b, n := signed(x), signed(y), new(big.Int)
	truth := map[bool]uint32{true: 1}
	switch operation {
	case "add":
		return word(n.Add(a, b)), false
	case "sub":
		return word(n.Sub(a, b)), false
	case "mul":
		return word(n.Mul(a, b)), false
	case "div", "mod":
		if y == 0 {
			return 0, true
		}
		if n.Quo(a, b); operation == "mod" {
			n.Rem(a, b)
		}
		return word(n), false
	case "and":
		return word(n.And(a, b)), false
	case "or":
		return word(n.Or(a, b)), false
	case "xor":
		return word(n.Xor(a, b)), false
	case "shl":
		return word(n.Lsh(big.NewInt(int64(x)), uint(y%32))), false
	case "shr":
		return word(n.Rsh(big.NewInt(int64(x)), uint(y%32))), false
	case "less":
		return truth[a.Cmp(b) < 0], false
	}
	return truth[x == y], false
}

// traced is what Trace yields for an instruction.
type traced struct {
	pc uint32
	i  instr.Instr
}

// run returns the result of Run, and what Trace yields.
func (m *model) run(budget int) (x cpu.Result, l []traced) {
	x.Why = cpu.Budget
	for len(l) < budget {
		pc := m.r.PC
		i, why, number, address := m.step()
		if why != 0 {
			x.Why, x.Number, x.Address = why, number, address
			break
		}
		l = append(l, traced{pc, i})
	}
	x.Registers, x.Executed = m.r, len(l)
	return x, l
}

// someInstr returns an instruction that is likely to stay within the memory.
func someInstr(random *rand.Rand) instr.Instr {
	for {
		i := instr.Instr{Op: random.IntN(instr.NumOps)}
		form, _ := instr.Form(i.Op)
		if (i.Op == instr.Halt || i.Op == instr.Trap) && random.IntN(3) > 0 {
			continue
		}
		if form != instr.FormNone && form != instr.FormN {
			i.A = random.IntN(8)
		}
		if form == instr.FormAB || form == instr.FormABC || form == instr.FormABN {
			i.B = random.IntN(8)
		}
		if form == instr.FormABC {
			i.C = random.IntN(8)
		}
		if low, high, e := instr.Limits(i.Op); e == api.OK {
			i.C = max(low, min(high, random.IntN(300)-60))
			if random.IntN(8) == 0 {
				i.C = low + random.IntN(high-low+1)
			}
			if i.Op >= instr.Jump && i.Op <= instr.Call && random.IntN(8) > 0 {
				i.C = i.C / 4 * 4
			}
		}
		return i
	}
}

// someMachine returns a model with random pages and registers: instructions from the address 0 on, and some bytes that are none.
func someMachine(random *rand.Rand) *model {
	m := &model{changed: map[int]bool{}}
	for page := range m.there {
		m.there[page] = random.IntN(12) > 0
	}
	for at := 0; at < len(m.bytes); at += 4 {
		b, _ := instr.Encode(someInstr(random))
		copy(m.bytes[at:], b[:])
	}
	for range random.IntN(200) {
		m.bytes[random.IntN(len(m.bytes))] = byte(random.IntN(256))
	}
	for i := range m.r.R {
		m.r.R[i] = []uint32{0, uint32(random.IntN(4096)), random.Uint32(), uint32(64*random.IntN(64) + 60), ^uint32(random.IntN(70)), 1 << 31}[random.IntN(6)]
	}
	m.r.PC = uint32(4 * random.IntN(100))
	if random.IntN(10) == 0 {
		m.r.PC = uint32(random.IntN(4100))
	}
	return m
}

// memory returns a space whose source has the bytes of the model, and the pages that it is asked for, in order.
func (m *model) memory() (*space.Space, *[]int) {
	there, bytes, log := m.there, m.bytes, new([]int)
	return space.New(func(page int) (string, bool) {
		*log = append(*log, page)
		return string(bytes[64*page : 64*page+64]), there[page]
	}), log
}

// same tells whether a space has the bytes of the model, and has changed the same pages.
func (m *model) same(s *space.Space) bool {
	var changed []int
	for _, c := range s.Changes() {
		changed = append(changed, c.Page)
	}
	for page := range 64 {
		bytes, e := s.Page(page)
		if (e == api.OK) != m.there[page] || e == api.OK && bytes != string(m.bytes[64*page:64*page+64]) || slices.Contains(changed, page) != m.changed[page] {
			return false
		}
	}
	return true
}

// P19.1 to P19.4: random programs, which are run piece by piece, with calls to the kernel in between.
func TestModel(t *testing.T) {
	random := rand.New(rand.NewPCG(19, 1))
	reasons := map[int]int{}
	for range 4000 {
		m := someMachine(random)
		s, log := m.memory()
		for range 4 {
			r, budget := m.r, random.IntN(60)
			copied := *m
			copied.changed = map[int]bool{}
			other, _ := copied.memory()
			want, trace := m.run(budget)
			if got, e := cpu.Run(r, s, budget); got != want || e != api.OK {
				t.Fatalf("Run(%v, %d) = %v, %d; want %v", r, budget, got, e, want)
			}
			if !slices.Equal(*log, m.needed) {
				t.Fatalf("Run(%v, %d) has needed %v; want %v", r, budget, *log, m.needed)
			}
			checkTrace(t, r, other, budget, trace)
			if !copied.same(other) {
				t.Fatalf("Trace(%v, %d) has changed the memory", r, budget)
			}
			reasons[want.Why]++
			if want.Why == cpu.Trap {
				m.r = cpu.Resume(m.r, random.Uint32())
			}
		}
		if !m.same(s) {
			t.Fatalf("the memory is another one: %v", s.Changes())
		}
	}
	for why := cpu.Budget; why <= cpu.Divide; why++ {
		if reasons[why] < 50 {
			t.Errorf("the reason %d occurs %d times", why, reasons[why])
		}
	}
}

func checkTrace(t *testing.T, r cpu.Registers, s *space.Space, budget int, want []traced) {
	t.Helper()
	var got []traced
	for pc, i := range cpu.Trace(r, s, budget) {
		got = append(got, traced{pc, i})
	}
	if !slices.Equal(got, want) {
		t.Fatalf("Trace(%v, %d) = %v; want %v", r, budget, got, want)
	}
}
