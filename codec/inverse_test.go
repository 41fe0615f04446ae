package codec_test

import (
	"math/rand/v2"
	"strings"
	"testing"

	"replevin/api"
	"replevin/codec"
)

// value is a value of one of the four kinds.
type value struct {
	kind   int
	number int
	flag   bool
	text   string
}

func someValue(random *rand.Rand) value {
	v := value{kind: random.IntN(4)}
	switch v.kind {
	case 0:
		v.number = random.Int() >> random.IntN(63)
	case 1:
		v.number = int(random.Uint64()) >> random.IntN(64)
	case 2:
		v.flag = random.IntN(2) == 1
	case 3:
		v.text = strings.Repeat(string([]byte{byte(random.IntN(256))}), random.IntN(200))
	}
	return v
}

func (v value) write(w *codec.Writer) {
	switch v.kind {
	case 0:
		w.Number(v.number)
	case 1:
		w.Signed(v.number)
	case 2:
		w.Flag(v.flag)
	case 3:
		w.Text(v.text)
	}
}

func read(r *codec.Reader, kind int) value {
	v := value{kind: kind}
	switch kind {
	case 0:
		v.number = r.Number(anyNumber)
	case 1:
		v.number = r.Signed()
	case 2:
		v.flag = r.Flag()
	case 3:
		v.text = r.Text(anyNumber)
	}
	return v
}

// P1.7
func TestReadingIsTheInverseOfWriting(t *testing.T) {
	random := rand.New(rand.NewPCG(1, 1))
	for range 2000 {
		w := codec.NewWriter()
		values := make([]value, 1+random.IntN(10))
		for i := range values {
			values[i] = someValue(random)
			values[i].write(w)
		}
		b, e := w.Bytes()
		if e != api.OK {
			t.Fatal(e)
		}
		r := codec.NewReader(b)
		for i, v := range values {
			if got := read(r, v.kind); got != v {
				t.Fatalf("value %d of %q is %v; want %v", i, b, got, v)
			}
		}
		checkReader(t, r, 0, 0, api.OK, api.OK)
		r = codec.NewReader(b[:len(b)-1])
		for _, v := range values {
			read(r, v.kind)
		}
		if _, e := r.Failed(); e != api.ErrTruncated || r.Close() != api.ErrTruncated {
			t.Fatalf("without the last byte of %q: %d; want ErrTruncated", b, e)
		}
	}
}

// P1.7
func TestWritingIsTheInverseOfReading(t *testing.T) {
	random := rand.New(rand.NewPCG(2, 2))
	accepted := 0
	for range 200000 {
		b := make([]byte, 1+random.IntN(12))
		for i := range b {
			b[i] = byte([]int{0, 1, 2, 127, 128, 255, random.IntN(256)}[random.IntN(7)])
		}
		r := codec.NewReader(b)
		w := codec.NewWriter()
		for r.Rest() > 0 {
			v := read(r, random.IntN(4))
			if _, e := r.Failed(); e != api.OK {
				break
			}
			v.write(w)
		}
		if r.Close() != api.OK {
			continue
		}
		accepted++
		if written, e := w.Bytes(); e != api.OK || string(written) != string(b) {
			t.Fatalf("%q is written as %q, %d", b, written, e)
		}
	}
	if accepted < 1000 {
		t.Errorf("only %d sequences were accepted", accepted)
	}
}
