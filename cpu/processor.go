package cpu

import (
	"iter"

	"replevin/api"
	"replevin/instr"
	"replevin/space"
)

// processor is a processor at work. As no reason is 0, the reason is 0 as long as execution goes on.
type processor struct {
	Registers
	memory  *space.Space
	next    uint32 // the program counter behind the present instruction
	why     int
	number  int
	address uint32
}

// effect is what the instructions of an operation do. It changes nothing if execution ends.
type effect func(p *processor, i instr.Instr)

func (p *processor) goesOn() bool { return p.why == 0 }

// execute executes instructions until execution ends, at most a number of them, and yields each one after it was executed, with its program counter.
func (p *processor) execute(budget int) iter.Seq2[uint32, instr.Instr] {
	return func(yield func(uint32, instr.Instr) bool) {
		table := effects()
		for range budget {
			at := p.PC
			i := p.fetch()
			if p.goesOn() {
				p.next = sum(at, instr.Size)
				table[i.Op](p, i)
			}
			if !p.goesOn() {
				return
			}
			p.PC = p.next
			if !yield(at, i) {
				return
			}
		}
	}
}

// fetch returns the next instruction; execution ends if there is none.
func (p *processor) fetch() instr.Instr {
	word, e := p.memory.Word(int(p.PC))
	if e != api.OK {
		p.fault(p.PC)
		return instr.Instr{}
	}
	i, e := instr.Decode(wordBytes(word))
	if e != api.OK {
		p.why = Illegal
	}
	return i
}

func (p *processor) fault(address uint32) { p.why, p.address = Fault, address }

// effects returns the effects of all operations.
func effects() map[int]effect {
	table := map[int]effect{
		instr.Halt:      (*processor).halt,
		instr.Move:      (*processor).move,
		instr.Set:       (*processor).set,
		instr.High:      (*processor).high,
		instr.AddImm:    (*processor).addNumber,
		instr.Load:      (*processor).load,
		instr.Store:     (*processor).store,
		instr.LoadByte:  (*processor).loadByte,
		instr.StoreByte: (*processor).storeByte,
		instr.Jump:      (*processor).jump,
		instr.JumpZero:  (*processor).jumpZero,
		instr.JumpNot:   (*processor).jumpNot,
		instr.Call:      (*processor).call,
		instr.Back:      (*processor).back,
		instr.Trap:      (*processor).trap,
	}
	for op := instr.Add; op <= instr.Equal; op++ {
		table[op] = (*processor).calculate
	}
	return table
}

func (p *processor) halt(instr.Instr) { p.why = Halt }

func (p *processor) trap(i instr.Instr) { p.why, p.number = Trap, i.C }

func (p *processor) move(i instr.Instr) { p.R[i.A] = p.R[i.B] }

func (p *processor) set(i instr.Instr) { p.R[i.A] = instr.Unsigned(i.C) }

func (p *processor) high(i instr.Instr) { p.R[i.A] = instr.Unsigned(i.C)<<16 | p.R[i.A]&0xffff }

func (p *processor) calculate(i instr.Instr) {
	word, e := instr.Calculate(i.Op, p.R[i.B], p.R[i.C])
	if e != api.OK {
		p.why = Divide
		return
	}
	p.R[i.A] = word
}

func (p *processor) addNumber(i instr.Instr) { p.R[i.A] = p.place(i) }

// place returns the sum of b and the number, which is the address for loads and stores.
func (p *processor) place(i instr.Instr) uint32 { return sum(p.R[i.B], i.C) }

func (p *processor) load(i instr.Instr) {
	at := p.place(i)
	word, e := p.memory.Word(int(at))
	if e != api.OK {
		p.fault(at)
		return
	}
	p.R[i.A] = word
}

func (p *processor) loadByte(i instr.Instr) {
	at := p.place(i)
	bytes, e := p.memory.Load(int(at), 1)
	if e != api.OK {
		p.fault(at)
		return
	}
	p.R[i.A] = uint32(bytes[0])
}

func (p *processor) store(i instr.Instr) {
	at := p.place(i)
	if p.memory.SetWord(int(at), p.R[i.A]) != api.OK {
		p.fault(at)
	}
}

func (p *processor) storeByte(i instr.Instr) {
	at := p.place(i)
	if p.memory.Store(int(at), string([]byte{byte(p.R[i.A])})) != api.OK {
		p.fault(at)
	}
}

func (p *processor) jump(i instr.Instr) { p.next = instr.Unsigned(i.C) }

func (p *processor) jumpZero(i instr.Instr) {
	if p.R[i.A] == 0 {
		p.jump(i)
	}
}

func (p *processor) jumpNot(i instr.Instr) {
	if p.R[i.A] != 0 {
		p.jump(i)
	}
}

func (p *processor) call(i instr.Instr) {
	p.R[i.A] = p.next
	p.jump(i)
}

func (p *processor) back(i instr.Instr) { p.next = p.R[i.A] }

// sum returns the sum of a word and a number modulo 2^32.
func sum(word uint32, n int) uint32 { return word + instr.Unsigned(n) }
