package cpu_test

import (
	"encoding/binary"
	"math/rand/v2"
	"strings"
	"testing"

	"replevin/api"
	"replevin/cpu"
)

// P19.5
func TestEncode(t *testing.T) {
	random := rand.New(rand.NewPCG(19, 5))
	for range 1000 {
		var r cpu.Registers
		var want []byte
		for i := range r.R {
			r.R[i] = random.Uint32() >> random.IntN(32)
			want = binary.LittleEndian.AppendUint32(want, r.R[i])
		}
		r.PC = random.Uint32() >> random.IntN(32)
		want = binary.LittleEndian.AppendUint32(want, r.PC)
		got := cpu.Encode(r)
		if got != string(want) {
			t.Fatalf("Encode(%v) = %q; want %q", r, got, want)
		}
		if back, e := cpu.Decode(got); back != r || e != api.OK {
			t.Fatalf("Decode(%q) = %v, %d; want %v", got, back, e, r)
		}
	}
	if got := cpu.Encode(cpu.Registers{}); got != strings.Repeat("\x00", 36) {
		t.Errorf("Encode of zeros = %q", got)
	}
	if got := cpu.Encode(registers(0x04030201, 1)); got != "\x01"+strings.Repeat("\x00", 31)+"\x01\x02\x03\x04" {
		t.Errorf("Encode = %q", got)
	}
}

// P19.5
func TestDecodeErrors(t *testing.T) {
	for n := range 100 {
		want := api.OK
		switch {
		case n < 36:
			want = api.ErrShort
		case n > 36:
			want = api.ErrLong
		}
		got, e := cpu.Decode(strings.Repeat("\xff", n))
		if e != want || want != api.OK && got != (cpu.Registers{}) {
			t.Errorf("Decode of %d bytes = %v, %d; want %d", n, got, e, want)
		}
	}
}
