package instr_test

import (
	"bytes"
	"math/rand/v2"
	"slices"
	"testing"

	"replevin/api"
	"replevin/instr"
)

// P16.2
func TestCode(t *testing.T) {
	for _, x := range []struct {
		i instr.Instr
		b [4]byte
	}{
		{instr.Instr{}, [4]byte{}},
		{instr.Instr{Op: instr.AddImm, A: 2, B: 1, C: -2}, [4]byte{16, 33, 254, 255}},
		{instr.Instr{Op: instr.Move, A: 7, B: 1}, [4]byte{1, 0x71, 0, 0}},
		{instr.Instr{Op: instr.Set, A: 3, C: -1}, [4]byte{2, 0x30, 255, 255}},
		{instr.Instr{Op: instr.High, A: 3, C: 65535}, [4]byte{3, 0x30, 255, 255}},
		{instr.Instr{Op: instr.High, C: 32768}, [4]byte{3, 0, 0, 128}},
		{instr.Instr{Op: instr.Store, B: 7, C: -32768}, [4]byte{18, 7, 0, 128}},
		{instr.Instr{Op: instr.Jump, C: 4095}, [4]byte{21, 0, 255, 15}},
		{instr.Instr{Op: instr.Trap, C: 255}, [4]byte{26, 0, 255, 0}},
	} {
		if b, e := instr.Encode(x.i); b != x.b || e != api.OK {
			t.Errorf("Encode(%v) = %v, %d; want %v", x.i, b, e, x.b)
		}
		if i, e := instr.Decode(x.b); i != x.i || e != api.OK {
			t.Errorf("Decode(%v) = %v, %d; want %v", x.b, i, e, x.i)
		}
	}
}

// P16.2, P16.7: Decode accepts exactly what Encode returns.
func TestDecode(t *testing.T) {
	numbers := []int{0, 1, 7, 8, 255, 256, 257, 2048, 4095, 4096, 32767, 32768, 65280, 65535}
	accepted := 0
	for op := range 256 {
		for fields := range 256 {
			for _, c := range numbers {
				b := [4]byte{byte(op), byte(fields), byte(c), byte(c >> 8)}
				want := instr.Instr{Op: op, A: fields / 16, B: fields % 16, C: c}
				if op < 27 && rows[op].low < 0 && c > 32767 {
					want.C -= 65536
				}
				wantError := api.OK
				if check(want) != api.OK {
					want, wantError = instr.Instr{}, api.ErrIllegal
				}
				i, e := instr.Decode(b)
				if i != want || e != wantError {
					t.Fatalf("Decode(%v) = %v, %d; want %v, %d", b, i, e, want, wantError)
				}
				if e != api.OK {
					continue
				}
				accepted++
				if again, e := instr.Encode(i); again != b || e != api.OK {
					t.Fatalf("Encode(%v) = %v, %d; want %v", i, again, e, b)
				}
			}
		}
	}
	if accepted < 5000 {
		t.Errorf("only %d are accepted", accepted)
	}
}

// P16.2, P16.7: for each operation, all numbers that it may have.
func TestAllNumbers(t *testing.T) {
	for op := range rows {
		for n := rows[op].low - 1; n <= rows[op].high+1; n++ {
			i := instr.Instr{Op: op, C: n}
			want := check(i)
			b, e := instr.Encode(i)
			if e != want {
				t.Fatalf("Encode(%v) = %d; want %d", i, e, want)
			}
			if e != api.OK {
				continue
			}
			if again, e := instr.Decode(b); again != i || e != api.OK {
				t.Fatalf("Decode(%v) = %v, %d; want %v", b, again, e, i)
			}
		}
	}
}

// P16.3
func TestCodeOfLists(t *testing.T) {
	random := rand.New(rand.NewPCG(2, 16))
	for range 500 {
		l := make([]instr.Instr, random.IntN(20))
		var want []byte
		for at := range l {
			l[at] = someInstr(random)
			b := bytesOf(l[at])
			want = append(want, b[:]...)
		}
		b, at, e := instr.EncodeAll(l)
		if !bytes.Equal(b, want) || at != 0 || e != api.OK {
			t.Fatalf("EncodeAll(%v) = %v, %d, %d; want %v", l, b, at, e, want)
		}
		if m, at, e := instr.DecodeAll(b); !slices.Equal(m, l) || at != 0 || e != api.OK {
			t.Fatalf("DecodeAll(%v) = %v, %d, %d; want %v", b, m, at, e, l)
		}
		for rest := 1; rest < 4 && len(l) > 0; rest++ {
			if m, at, e := instr.DecodeAll(b[:len(b)-rest]); m != nil || at != len(b)-4 || e != api.ErrTruncated {
				t.Fatalf("DecodeAll without %d bytes = %v, %d, %d", rest, m, at, e)
			}
		}
	}
	for _, l := range [][]instr.Instr{nil, {}} {
		if b, at, e := instr.EncodeAll(l); len(b) != 0 || at != 0 || e != api.OK {
			t.Errorf("EncodeAll of nothing = %v, %d, %d", b, at, e)
		}
	}
	for _, b := range [][]byte{nil, {}} {
		if l, at, e := instr.DecodeAll(b); len(l) != 0 || at != 0 || e != api.OK {
			t.Errorf("DecodeAll of nothing = %v, %d, %d", l, at, e)
		}
	}
}

// P16.3
func TestCodeOfListsErrors(t *testing.T) {
	good := instr.Instr{Op: instr.Set, A: 1, C: 5}
	for _, x := range []struct {
		l    []instr.Instr
		at   int
		want api.Errno
	}{
		{[]instr.Instr{{Op: 27}}, 0, api.ErrKind}, {[]instr.Instr{good, {Op: 99}}, 1, api.ErrKind}, {[]instr.Instr{good, good, {Op: instr.Jump, A: 1}, good, {Op: 27}}, 2, api.ErrArgument}, {[]instr.Instr{{Op: instr.Jump, C: -1}, {Op: 27}}, 0, api.ErrRange},
	} {
		if b, at, e := instr.EncodeAll(x.l); b != nil || at != x.at || e != x.want {
			t.Errorf("EncodeAll(%v) = %v, %d, %d; want %d, %d", x.l, b, at, e, x.at, x.want)
		}
	}
	for _, x := range []struct {
		b    string
		at   int
		want api.Errno
	}{
		{"\x1b\x00\x00\x00", 0, api.ErrIllegal}, {"\x02\x10\x05\x00\x00\x01\x00\x00", 4, api.ErrIllegal}, {"\x02\x10\x05\x00\x00\x01\x00\x00\xff\x00\x00\x00", 4, api.ErrIllegal},
		// An instruction that is not one comes before the end, wherever it is.
		{"\x02\x10\x05\x00\x1b\x00\x00\x00\x02", 4, api.ErrIllegal}, {"\x1b\x00\x00\x00\x02\x10\x05", 0, api.ErrIllegal},
		{"\x00", 0, api.ErrTruncated}, {"\x1b", 0, api.ErrTruncated}, {"\x1b\xff\xff", 0, api.ErrTruncated}, {"\x02\x10\x05\x00\x1b\x00\x00", 4, api.ErrTruncated},
	} {
		if l, at, e := instr.DecodeAll([]byte(x.b)); l != nil || at != x.at || e != x.want {
			t.Errorf("DecodeAll(%q) = %v, %d, %d; want %d, %d", x.b, l, at, e, x.at, x.want)
		}
	}
}

// P16.7
func TestListsAreNew(t *testing.T) {
	l := []instr.Instr{{Op: instr.Set, A: 1, C: 5}, {Op: instr.Trap, C: 1}}
	b, _, _ := instr.EncodeAll(l)
	m, _, _ := instr.DecodeAll(b)
	if !slices.Equal(l, []instr.Instr{{Op: instr.Set, A: 1, C: 5}, {Op: instr.Trap, C: 1}}) || string(b) != "\x02\x10\x05\x00\x1a\x00\x01\x00" {
		t.Errorf("%v, %q", l, b)
	}
	clear(l)
	clear(b)
	if !slices.Equal(m, []instr.Instr{{Op: instr.Set, A: 1, C: 5}, {Op: instr.Trap, C: 1}}) {
		t.Errorf("%v", m)
	}
}
