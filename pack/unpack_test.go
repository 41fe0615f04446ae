package pack_test

import (
	"bytes"
	"math/rand/v2"
	"slices"
	"strings"
	"testing"

	"replevin/api"
	"replevin/pack"
)

// P15.2
func TestUnpack(t *testing.T) {
	for _, x := range []struct{ dict, p, want string }{
		{"", "", ""}, {"abc", "", ""}, {"", "\x00a", "a"}, {"", "\x00a\x00b\x01cd", "abcd"}, {"", "\x01ab\x82\x00\x01", "abababab"},
		{"", "\x00a\x80\x00\x00", "aaaaa"}, {"xyz", "\x80\x00\x02", "xyzx"}, {"xyz", "\x00a\x83\x00\x03", "axyzaxyz"}, {"xyz", "\x81\x00\x00\x81\x00\x05", "zzzzzzzzzz"},
		{"", "\x02abc\xff\x00\x02", strings.Repeat("abc", 44) + "ab"},
		// These tokens are not canonical.
		{"abcd", "\x03abcd", "abcd"}, {"", "\x00a\x00a\x80\x00\x01", "aaaaaa"},
	} {
		for _, more := range []int{0, 1, 1000} {
			checkUnpack(t, []byte(x.dict), []byte(x.p), len(x.want)+more, []byte(x.want), 0, api.OK)
		}
	}
}

// P15.2
func TestUnpackErrors(t *testing.T) {
	for _, x := range []struct {
		dict, p string
		most    int
		at      int
		want    api.Errno
	}{
		{"", "\x00", 9, 0, api.ErrTruncated}, {"", "\x01a", 9, 0, api.ErrTruncated}, {"", "\x80", 9, 0, api.ErrTruncated}, {"", "\x80\x00", 9, 0, api.ErrTruncated}, {"abc", "\x80\x00", 9, 0, api.ErrTruncated}, {"", "\x7f" + strings.Repeat("a", 127), 500, 0, api.ErrTruncated},
		{"", "\x80\xff", 9, 0, api.ErrTruncated}, {"", "\x01a", 0, 0, api.ErrTruncated}, {"", "\x00a\x05abc", 1, 2, api.ErrTruncated},
		{"", "\x80\x00\x00", 9, 0, api.ErrRange}, {"", "\x80\x00\x00", 0, 0, api.ErrRange}, {"abc", "\x80\x00\x03", 9, 0, api.ErrRange}, {"abc", "\x00d\x80\x00\x04", 9, 2, api.ErrRange}, {"abc", "\x00d\x80\x00\x04", 1, 2, api.ErrRange}, {"", "\x02abc\x80\x00\x03\x80", 9, 4, api.ErrRange},
		{"", "\x00a", 0, 0, api.ErrLong}, {"", "\x00a\x01bc", 2, 2, api.ErrLong}, {"", "\x00a\x80\x00\x00", 4, 2, api.ErrLong}, {"abc", "\x80\x00\x00", 3, 0, api.ErrLong}, {"abc", "\x00a\x00b\x80\x00\x04\x00c", 6, 7, api.ErrLong}, {"", "\x00a\x00b\x80\xff\xff", 1, 2, api.ErrLong},
	} {
		checkUnpack(t, []byte(x.dict), []byte(x.p), x.most, nil, x.at, x.want)
	}
}

// P15.2: what is wrong with the numbers comes before everything else.
func TestUnpackLimits(t *testing.T) {
	fits := bytes.Repeat([]byte("x"), pack.MaxBytes)
	tooLong := append(bytes.Clone(fits), 'x')
	for _, p := range []string{"", "\x00a", "\x00", "\x80\xff\xff"} {
		for _, most := range []int{-1, -large - 1, pack.MaxBytes + 1, large} {
			checkUnpack(t, nil, []byte(p), most, nil, 0, api.ErrRange)
			checkUnpack(t, tooLong, []byte(p), most, nil, 0, api.ErrRange)
		}
		for _, most := range []int{0, 1, pack.MaxBytes} {
			checkUnpack(t, tooLong, []byte(p), most, nil, 0, api.ErrLong)
		}
	}
	checkUnpack(t, fits, []byte("\x80\x0f\xff"), 4, []byte("xxxx"), 0, api.OK)
	all := bytesOf(slices.Repeat([]pack.Token{{Literals: fits[:128]}}, pack.MaxBytes/128)...)
	checkUnpack(t, nil, all, pack.MaxBytes, fits, 0, api.OK)
	if _, at, e := pack.Unpack(append(bytes.Clone(all), 0, 'x'), pack.MaxBytes); at != len(all) || e != api.ErrLong {
		t.Errorf("MaxBytes + 1 bytes: %d, %d", at, e)
	}
	if _, at, e := pack.UnpackWith(fits, append(bytes.Clone(all), 128, 0, 0), pack.MaxBytes); at != len(all) || e != api.ErrLong {
		t.Errorf("MaxBytes + 4 bytes: %d, %d", at, e)
	}
}

// P15.2: distances up to the window, however long the dictionary is.
func TestUnpackDistances(t *testing.T) {
	random := rand.New(rand.NewPCG(6, 15))
	dict := someBytes(random, 6000, 256)
	for _, n := range []int{0, 1, 4094, 4095, 4096, 4097, 6000} {
		for _, run := range []int{1, 2} {
			for _, distance := range []int{1, 2, 3, 4094, 4095, 4096, 4097, 4098, 8192, 65536} {
				p := bytesOf(pack.Token{Literals: dict[:run]}, pack.Token{Distance: distance, Length: 4})
				want, at, e := unpacked(dict[:n], p, 10)
				if (e == api.OK) != (distance <= 4096 && distance <= n+run) {
					t.Fatalf("the model has the error %d", e)
				}
				checkUnpack(t, dict[:n], p, 10, want, at, e)
			}
		}
	}
}

// P15.2, P15.3
func TestRandomPackedForms(t *testing.T) {
	random := rand.New(rand.NewPCG(7, 15))
	accepted := 0
	for range 40000 {
		p := make([]byte, random.IntN(14))
		for i := range p {
			p[i] = byte([]int{0, 0, 1, 2, 3, 128, 129, random.IntN(256)}[random.IntN(8)])
		}
		dict := someBytes(random, random.IntN(8), 3)
		most := random.IntN(30)
		given := bytes.Clone(p)
		want, at, e := unpacked(dict, p, most)
		checkUnpack(t, dict, p, most, want, at, e)
		if e == api.OK {
			accepted++
		}
		b, _, e := unpacked(nil, p, pack.MaxBytes)
		is := e == api.OK && bytes.Equal(p, bytesOf(canonical(nil, b)...))
		if got := pack.Canonical(p); got != is {
			t.Fatalf("Canonical(%q) = %v", p, got)
		}
		if !bytes.Equal(p, given) {
			t.Fatalf("%q has become %q", given, p)
		}
	}
	if accepted < 4000 {
		t.Errorf("only %d packed forms were accepted", accepted)
	}
}

// P15.3
func TestTokens(t *testing.T) {
	random := rand.New(rand.NewPCG(8, 15))
	for range 300 {
		var l []pack.Token
		for range random.IntN(10) {
			if random.IntN(2) == 0 {
				l = append(l, pack.Token{Literals: someBytes(random, 1+random.IntN(128), 256)})
				continue
			}
			l = append(l, pack.Token{Distance: 1 + random.IntN(4096), Length: 4 + random.IntN(128)})
		}
		p := bytesOf(l...)
		checkTokens(t, p, l, 0, api.OK)
		checkTokens(t, append(p, 127), nil, len(p), api.ErrTruncated)
		checkTokens(t, append(p, 128, 16, 0, 0), nil, len(p), api.ErrRange)
	}
	run := pack.Token{Literals: []byte("ab")}
	for _, x := range []struct {
		p    string
		want []pack.Token
		at   int
		e    api.Errno
	}{
		{"", nil, 0, api.OK}, {"\x01ab\xff\x0f\xff", []pack.Token{run, {Distance: 4096, Length: 131}}, 0, api.OK}, {"\x80\x00\x00\x01ab\x01ab", []pack.Token{{Distance: 1, Length: 4}, run, run}, 0, api.OK},
		{"\x01ab\xff\x10\x00", nil, 3, api.ErrRange}, {"\x01ab\xff\xff\xff\x05", nil, 3, api.ErrRange}, {"\x01ab\xff\xff", nil, 3, api.ErrTruncated}, {"\x01ab\xff", nil, 3, api.ErrTruncated}, {"\x00", nil, 0, api.ErrTruncated}, {"\x01ab\x02ab", nil, 3, api.ErrTruncated},
	} {
		checkTokens(t, []byte(x.p), x.want, x.at, x.e)
	}
}

// P15.3
func TestCanonical(t *testing.T) {
	for _, p := range []string{"", "\x00a", "\x03aaaa", "\x00a\x80\x00\x00", "\x01ab\x82\x00\x01"} {
		if !pack.Canonical([]byte(p)) {
			t.Errorf("Canonical(%q) = false", p)
		}
	}
	full := strings.Repeat("a", 128)
	for _, p := range []string{"\x00a\x00b", "\x00a\x80\x00\x00\x00a", "\x04aaaaa", "\x01aa\x80\x00\x00", "\x01ab\x82\x00\x03", "\x01", "\x80", "\x80\x00\x00", "\x00a\x80\x00\x01", "\x00a\x80\x10\x00", "\x7e" + full[:127] + "\x00a"} {
		if pack.Canonical([]byte(p)) {
			t.Errorf("Canonical(%q) = true", p)
		}
	}
	most, _ := pack.Pack(make([]byte, pack.MaxBytes))
	if !pack.Canonical(most) {
		t.Error("Canonical of MaxBytes bytes")
	}
	// The same form with one more byte: the match at its end becomes longer.
	most[len(most)-3]++
	if b, _, e := pack.Unpack(most, pack.MaxBytes); pack.Canonical(most) || b != nil || e != api.ErrLong {
		t.Error("Canonical of MaxBytes + 1 bytes")
	}
}

// P15.6: a beginning of a packed form that ends with a whole token unpacks to a beginning of the bytes.
func TestBeginnings(t *testing.T) {
	random := rand.New(rand.NewPCG(9, 15))
	for range 200 {
		b := someBytes(random, 1+random.IntN(400), 4)
		p, _ := pack.Pack(b)
		ends := map[int]bool{0: true}
		at := 0
		l, _, _ := pack.Tokens(p)
		for _, token := range l {
			at += len(bytesOf(token))
			ends[at] = true
		}
		for n := range len(p) + 1 {
			got, _, e := pack.Unpack(p[:n], len(b))
			if ends[n] && (e != api.OK || !bytes.HasPrefix(b, got)) || !ends[n] && e != api.ErrTruncated {
				t.Fatalf("the first %d bytes of %q: %q, %d", n, p, got, e)
			}
		}
	}
}

// P15.6
func TestUnpackArguments(t *testing.T) {
	dict, p := []byte("dictionary"), []byte("\x03abcd\x00x\x80\x00\x08")
	memory := append(bytes.Clone(dict), "after"...)
	b, _, _ := pack.UnpackWith(memory[:len(dict)], p, 100)
	again, _, _ := pack.UnpackWith(memory[:len(dict)], p, 100)
	l, _, _ := pack.Tokens(p)
	if string(memory) != "dictionaryafter" || string(p) != "\x03abcd\x00x\x80\x00\x08" || string(b) != "abcdxnary" {
		t.Errorf("%q, %q, %q", memory, p, b)
	}
	clear(p)
	clear(memory)
	if string(b) != "abcdxnary" || string(l[0].Literals) != "abcd" || string(l[1].Literals) != "x" {
		t.Errorf("arguments are retained: %q, %v", b, l)
	}
	clear(b[:cap(b)])
	if string(again) != "abcdxnary" {
		t.Error("two results of UnpackWith share memory")
	}
	_ = append(l[0].Literals, "zzzz"...)
	clear(l[0].Literals)
	if string(l[1].Literals) != "x" {
		t.Error("two tokens share memory")
	}
}
