package object_test

import (
	"math/rand/v2"
	"slices"
	"strings"
	"testing"

	"replevin/api"
	"replevin/lineage"
	"replevin/object"
)

// P4.5
func TestString(t *testing.T) {
	for _, n := range allNames() {
		want := ""
		if modelCheck(n) == api.OK {
			want = modelText(n)
		}
		if s := n.String(); s != want {
			t.Errorf("String of %#v = %q; want %q", n, s, want)
		}
	}
	if s := object.OfBlock(object.Birth{Maker: "3.1", Number: 2}, 5).String(); s != "block 3.1#2 5" {
		t.Errorf("String = %q", s)
	}
	if s := object.OfListing(object.Birth{}).String(); s != "listing 0#0" {
		t.Errorf("String = %q", s)
	}
}

// P4.5, P4.7
func TestParse(t *testing.T) {
	for _, n := range validNames() {
		if got, e := object.Parse(modelText(n)); got != n || e != api.OK {
			t.Errorf("Parse(%q) = %#v, %d", modelText(n), got, e)
		}
	}
}

// P4.5
func TestParseErrors(t *testing.T) {
	long := strings.Repeat("w", 33)
	for _, s := range []string{
		"", " ", "clock 0", "clock ", " clock", "clock clock", "Clock", "clocks", "cloc", "clock\x00", "0", "15", "epoch 1",
		"process", "process ", "process  3", "process 3 ", "process 3.1#2", "process 3 1", "process 01", "process 0.1", "process 00", "process 3.", "process x", "process -1", "process 1000000", "process 1.1.1.1.1.1.1.1.1", "process\t3", "process3",
		"page 3.1", "page 3.1 ", "page 3.1 64", "page 3.1 05", "page 3.1 -1", "page 3.1 +5", "page 3.1 5 ", "page 3.1 5 5", "page 3.1#5", "page 3.1  5", "page 5", "page 3.1 x", "page 3.1 0x5", "page 3.1 5_0", "page 3.1 -0",
		"node 3.1", "node 3.1#", "node #2", "node 3.1 2", "node 3.1 #2", "node 3.1# 2", "node 3.1#2 ", "node 3.1#02", "node 3.1#-2", "node 3.1##2", "node 3.1#2#2", "node 3.1#1073741825", "node 3.1#99999999999999999999", "node 3.1#18446744073709551617", "node 0", "node 0.1#2", "node x#2", "node 3.1#2 2",
		"block 3.1#2", "block 3.1#2#5", "block 3.1 2 5", "block 3.1#2 64", "block 3.1#2 05", "block 3.1#2 5 ", "block 3.1#2  5", "block 3.1#2 5 a",
		"entry 3.1#2", "entry 3.1#2 ", "entry 3.1#2  a", "entry 3.1#2 a b", "entry 3.1#2 a/b", "entry 3.1#2 " + long, "entry 3.1#2 \x7f", "entry 3.1#2 \u00e9", "entry 3.1 a", "entry a",
		"terminal", "terminal ", "terminal #4", "terminal 04", "terminal -4", "terminal 4 ", "terminal 0#4", "terminal 1073741825", "port 04", "port 4.", "port x",
		"account", "account ", "account a b", "account a/b", "account " + long, "account  a", "box a b", "box \n",
		"out 7#1", "out 7#1 1073741825", "out 7 1 128", "out 7#1 128 0", "out 7#1 0128", "block", "nothing 3", "process 3\n", "process \u0663",
	} {
		if n, e := object.Parse(s); n != (object.Name{}) || e != api.ErrFormat {
			t.Errorf("Parse(%q) = %#v, %d; want ErrFormat", s, n, e)
		}
	}
}

// changed returns a text with one or more bytes replaced, inserted or removed.
func changed(random *rand.Rand, s string, bytes string) string {
	b := []byte(s)
	for range 1 + random.IntN(3) {
		at := random.IntN(len(b) + 1)
		other := bytes[random.IntN(len(bytes))]
		switch {
		case random.IntN(3) == 0:
			b = slices.Insert(b, at, other)
		case at < len(b) && random.IntN(2) == 0:
			b = slices.Delete(b, at, at+1)
		case at < len(b):
			b[at] = other
		}
	}
	return string(b)
}

// P4.5, P4.7: a text that is accepted is that of the name.
func TestParseOfChangedTexts(t *testing.T) {
	random := rand.New(rand.NewPCG(3, 3))
	names := validNames()
	accepted := 0
	for range 100000 {
		s := changed(random, modelText(names[random.IntN(len(names))]), "0123459 #. /-+_ax\x00\xff")
		n, e := object.Parse(s)
		if e == api.OK {
			accepted++
			if modelCheck(n) != api.OK || modelText(n) != s {
				t.Fatalf("Parse(%q) = %#v", s, n)
			}
		} else if n != (object.Name{}) || e != api.ErrFormat {
			t.Fatalf("Parse(%q) = %#v, %d", s, n, e)
		}
	}
	if accepted < 1000 || accepted > 90000 {
		t.Errorf("%d texts were accepted", accepted)
	}
}

// P4.6
func TestEncode(t *testing.T) {
	for _, n := range allNames() {
		want := ""
		if modelCheck(n) == api.OK {
			want = modelEncoding(n)
		}
		if s, e := n.Encode(); s != want || e != modelCheck(n) {
			t.Errorf("Encode of %#v = %q, %d; want %q, %d", n, s, e, want, modelCheck(n))
		}
	}
	if s, e := object.OfBlock(object.Birth{Maker: "3.1", Number: 2}, 5).Encode(); s != string([]byte{8, 3, 51, 46, 49, 2, 5}) || e != api.OK {
		t.Errorf("Encode = %q, %d", s, e)
	}
}

// P4.6, P4.7
func TestDecode(t *testing.T) {
	for _, n := range validNames() {
		s := modelEncoding(n)
		if got, e := object.Decode(s); got != n || e != api.OK {
			t.Errorf("Decode(%q) = %#v, %d", s, got, e)
		}
		for length := range len(s) {
			if got, e := object.Decode(s[:length]); got != (object.Name{}) || e != api.ErrFormat {
				t.Errorf("Decode(%q) = %#v, %d; want ErrFormat", s[:length], got, e)
			}
		}
		for _, more := range []string{"\x00", "\x01", "a", s} {
			if got, e := object.Decode(s + more); got != (object.Name{}) || e != api.ErrFormat {
				t.Errorf("Decode(%q) = %#v, %d; want ErrFormat", s+more, got, e)
			}
		}
	}
}

// P4.6
func TestDecodeErrors(t *testing.T) {
	long := strings.Repeat("w", 33)
	for _, s := range []string{
		"", "\x00", "\x15", "\xff", "\x8f\x00", "\x01", "\x01\x010", "\x01\x0201", "\x01\x01x", "\x01\x81\x003", "\x01\x02", "\x01\x11" + "1.1.1.1.1.1.1.1.1",
		"\x03\x017\x40", "\x03\x017\x85\x00", "\x07\x017\x81\x80\x80\x80\x04", "\x07\x010\x02", "\x08\x017\x02\x40", "\x09\x017\x02\x00", "\x09\x017\x02\x03a/b", "\x09\x017\x02\x01 ",
		"\x09\x017\x02\x21" + long, "\x0d\x81\x80\x80\x80\x04", "\x0d\xff\xff\xff\xff\xff\xff\xff\xff\xff", "\x0e\x00", "\x0e\x21" + long, "\x0f\x00", "\x11\x03a b", "\x12\x017\x01\x81\x80\x80\x80\x04", "\x14\x00",
	} {
		if n, e := object.Decode(s); n != (object.Name{}) || e != api.ErrFormat {
			t.Errorf("Decode(%q) = %#v, %d; want ErrFormat", s, n, e)
		}
	}
}

// P4.6, P4.7: an encoding that is accepted is that of the name.
func TestDecodeOfChangedEncodings(t *testing.T) {
	random := rand.New(rand.NewPCG(4, 4))
	names := validNames()
	accepted := 0
	for range 100000 {
		s := changed(random, modelEncoding(names[random.IntN(len(names))]), "\x00\x01\x02\x03\x05\x08\x09\x0f\x3f\x40\x80\xff13.a/ ")
		n, e := object.Decode(s)
		if e == api.OK {
			accepted++
			if modelCheck(n) != api.OK || modelEncoding(n) != s {
				t.Fatalf("Decode(%q) = %#v", s, n)
			}
		} else if n != (object.Name{}) || e != api.ErrFormat {
			t.Fatalf("Decode(%q) = %#v, %d", s, n, e)
		}
	}
	if accepted < 1000 || accepted > 90000 {
		t.Errorf("%d encodings were accepted", accepted)
	}
}

// P4.7
func TestTextsAndEncodingsDiffer(t *testing.T) {
	texts := map[string]object.Name{}
	var encodings []string
	for _, n := range validNames() {
		s := n.String()
		if other, ok := texts[s]; ok {
			t.Errorf("%#v and %#v have the text %q", other, n, s)
		}
		texts[s] = n
		encoding, _ := n.Encode()
		encodings = append(encodings, encoding)
	}
	// A text and all texts that begin with it are neighbours in order.
	slices.Sort(encodings)
	for i := 1; i < len(encodings); i++ {
		if strings.HasPrefix(encodings[i], encodings[i-1]) {
			t.Errorf("the encoding %q is the beginning of %q", encodings[i-1], encodings[i])
		}
	}
}

// P4.5: the kernel is written as 0, but it is not called 0.
func TestTextOfTheKernel(t *testing.T) {
	for s, want := range map[string]object.Name{"table 0": object.OfTable(""), "pipe 0#7": object.OfPipe(object.Birth{Number: 7}), "page 0 0": object.OfPage("", 0)} {
		if n, e := object.Parse(s); n != want || e != api.OK || want.String() != s {
			t.Errorf("Parse(%q) = %#v, %d", s, n, e)
		}
	}
	n := object.OfTable(lineage.Name("0"))
	if n.Check() != api.ErrName || n.String() != "" {
		t.Error(n.Check(), n.String())
	}
}
