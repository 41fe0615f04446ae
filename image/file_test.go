package image_test

import (
	"math/rand/v2"
	"strings"
	"testing"

	"replevin/api"
	"replevin/image"
)

// P20.3
func TestEncode(t *testing.T) {
	// Magic, the lengths and bytes of code and data, the numbers, and the check.
	s, e := image.Encode(image.Image{Code: code(8), Data: "xyz", Zero: 300, Entry: 4})
	if want := "\x7fRPL\x08abcdabcd\x03xyz\xac\x02\x04"; e != api.OK || len(s) != len(want)+8 || s[:len(want)] != want {
		t.Errorf("%q, %d; want %q and the check", s, e, want)
	}
	for k, x := range errorCases {
		s, e := image.Encode(x.i)
		if e != x.want || e != api.OK && s != "" {
			t.Errorf("%d: Encode = %d bytes, %d; want %d", k, len(s), e, x.want)
		}
		if e == api.OK && s != file(fields(x.i)) {
			t.Errorf("%d: %q; want %q", k, s, file(fields(x.i)))
		}
	}
}

// P20.3
func TestIsImage(t *testing.T) {
	for s, want := range map[string]bool{"": false, "\x7f": false, "\x7fRP": false, "\x7fRPL": true, "\x7fRPLx": true, "\x7fRPM": false, "\x7fRpL": false, "\x7eRPL": false, "RPL\x7f": false, " \x7fRPL": false, "\x7fELF": false, file(""): true, file(fields(image.Image{Code: code(4)})): true, "\x7fRPL" + strings.Repeat("x", 5000): true} {
		if image.IsImage(s) != want {
			t.Errorf("IsImage(%q) = %v", s, !want)
		}
	}
}

// P20.3 to P20.5
func TestInverse(t *testing.T) {
	random := rand.New(rand.NewPCG(2, 20))
	longest := 0
	for range 10000 {
		i := someImage(random)
		given := i
		s, e := image.Encode(i)
		if e != checked(i) || i != given {
			t.Fatalf("%+v: Encode = %d; want %d", given, e, checked(i))
		}
		if e != api.OK {
			continue
		}
		longest = max(longest, len(s))
		if s != file(fields(i)) || len(s) > image.MaxBytes || !image.IsImage(s) {
			t.Fatalf("%+v: Encode = %q", i, s)
		}
		if j, e := image.Decode(s); j != i || e != api.OK {
			t.Fatalf("%q: Decode = %+v, %d; want %+v", s, j, e, i)
		}
	}
	if longest < 4000 {
		t.Errorf("the longest file has %d bytes", longest)
	}
}

// P20.5: the longest files are not longer than the limit of Decode.
func TestLongestFiles(t *testing.T) {
	for _, i := range []image.Image{{Code: code(4096), Entry: 4092}, {Code: code(4032), Data: data(64), Entry: 4028}, {Code: code(64), Data: data(4032), Entry: 60}, {Code: code(256), Data: data(3700), Zero: 140, Entry: 252}, {Code: code(4), Zero: 4032}} {
		s, e := image.Encode(i)
		if e != api.OK || len(s) > 4200 {
			t.Errorf("a file has %d bytes, %d", len(s), e)
		}
		if j, e := image.Decode(s); j != i || e != api.OK {
			t.Error(e)
		}
	}
}

// P20.4: the order of the errors.
func TestDecodeErrors(t *testing.T) {
	good := file(fields(image.Image{Code: code(4)}))
	spoiled := good[:len(good)-1] + string([]byte{good[len(good)-1] ^ 1})
	long := file(fields(image.Image{Code: code(4092), Data: data(200)}))
	for k, x := range []struct {
		s    string
		want api.Errno
	}{
		{good, api.OK},
		{long, api.ErrLong}, {long[:4201], api.ErrLong}, {long[:4200], api.ErrChecksum}, {data(4201), api.ErrLong}, {data(4200), api.ErrFormat}, {"\x7fRPL" + data(4196), api.ErrChecksum}, {"\x7fRPL" + data(4197), api.ErrLong}, {data(1 << 20), api.ErrLong},
		{"", api.ErrFormat}, {"\x7f", api.ErrFormat}, {"\x7fRP", api.ErrFormat}, {"\x7fRPM", api.ErrFormat}, {"x" + good, api.ErrFormat}, {"\x7fRPM" + good[4:], api.ErrFormat}, {"x" + good[1:], api.ErrFormat}, {"RPL\x7f1234567", api.ErrFormat}, {"\x7fRPl12345678", api.ErrFormat},
		{"\x7fRPL", api.ErrShort}, {"\x7fRPL1", api.ErrShort}, {"\x7fRPL1234567", api.ErrShort}, {"\x7fRPL12345678", api.ErrChecksum}, {file("")[:11], api.ErrShort},
		{spoiled, api.ErrChecksum}, {good[:len(good)-1], api.ErrChecksum}, {good + "\x00", api.ErrChecksum}, {good[:12], api.ErrChecksum}, {"\x7fRPL" + good[5:], api.ErrChecksum}, {good + good, api.ErrChecksum}, {file("")[:4] + "x" + file("")[5:], api.ErrChecksum},
		{file(""), api.ErrFormat},
	} {
		if i, e := image.Decode(x.s); e != x.want || (e != api.OK) != (i == image.Image{}) {
			t.Errorf("%d: Decode = %+v, %d; want %d", k, i, e, x.want)
		}
	}
}

// P20.4: files with the right check that are not those of a valid image.
func TestDecodeOtherFields(t *testing.T) {
	good := "\x04abcd\x03xyz\x02\x00"
	if i, e := image.Decode(file(good)); e != api.OK || i != (image.Image{Code: "abcd", Data: "xyz", Zero: 2}) {
		t.Errorf("%+v, %d", i, e)
	}
	for n := range len(good) {
		checkNoImage(t, good[:n])
	}
	for _, s := range []string{
		good + "\x00", good + "x", good + good,
		// Numbers with superfluous groups, or with too many.
		"\x84\x00abcd\x03xyz\x02\x00", "\x04abcd\x83\x00xyz\x02\x00", "\x04abcd\x03xyz\x82\x00\x00", "\x04abcd\x03xyz\x02\x80\x00", "\x04abcd\x03xyz\x02\xff\xff\xff\xff\xff\xff\xff\xff\xff\x00", "\xff\xff\xff\xff\xff\xff\xff\xff\x7fabcd", "\x04abcd\x03xyz\x02\x80", "\x80\x80\x80\x80\x80\x80\x80\x80\x80\x80",
		// Texts that are longer than what is left.
		"\x0aabcd\x00\x00\x00", "\x04abcd\x10xyz\x02\x00", "\xff\x7fabcd",
	} {
		checkNoImage(t, s)
	}
	for _, x := range errorCases {
		if x.want != api.OK && x.i.Zero >= 0 && x.i.Entry >= 0 && len(file(fields(x.i))) <= 4200 {
			checkNoImage(t, fields(x.i))
		}
	}
	// Code or data that have no room in the memory, in a file that is not too long.
	checkNoImage(t, fields(image.Image{Code: code(4100)}))
	checkNoImage(t, fields(image.Image{Code: code(4), Data: data(4097)}))
}

func checkNoImage(t *testing.T, fields string) {
	t.Helper()
	if i, e := image.Decode(file(fields)); e != api.ErrFormat || i != (image.Image{}) {
		t.Errorf("Decode of the fields %q = %+v, %d", fields, i, e)
	}
}

// P20.4: what is accepted is the file of its image, also of fields that are changed with the right check.
func TestChangedFields(t *testing.T) {
	random := rand.New(rand.NewPCG(3, 20))
	accepted, refused := 0, 0
	for range 30000 {
		i := image.Image{Code: someBytes(random, 4*(1+random.IntN(40))), Data: someBytes(random, random.IntN(200)), Zero: random.IntN(400)}
		if random.IntN(2) == 0 {
			i.Entry = 4 * random.IntN(len(i.Code)/4)
		}
		b := []byte(fields(i))
		for range 1 + random.IntN(2) {
			at := []int{0, 1, len(b) - 1, len(b) - 2, random.IntN(len(b)), 1 + len(i.Code), 2 + len(i.Code)}[random.IntN(7)]
			b[at] = []byte{b[at] + 1, b[at] - 1, b[at] ^ 128, byte(random.IntN(256))}[random.IntN(4)]
		}
		s := file(string(b))
		j, e := image.Decode(s)
		switch e {
		case api.OK:
			accepted++
			if checked(j) != api.OK || file(fields(j)) != s {
				t.Fatalf("Decode(%q) = %+v", s, j)
			}
		case api.ErrFormat:
			refused++
			if j != (image.Image{}) {
				t.Fatalf("Decode(%q) = %+v, %d", s, j, e)
			}
		default:
			t.Fatalf("Decode(%q) = %d", s, e)
		}
	}
	if accepted < 1000 || refused < 1000 {
		t.Errorf("%d were accepted and %d refused", accepted, refused)
	}
}

// P20.5: a file that is changed in one byte is not accepted.
func TestOneByte(t *testing.T) {
	s := file(fields(image.Image{Code: code(68), Data: "data", Zero: 61, Entry: 64}))
	for at := range s {
		for by := 1; by < 256; by++ {
			changed := s[:at] + string([]byte{s[at] ^ byte(by)}) + s[at+1:]
			want := api.ErrChecksum
			if at < 4 {
				want = api.ErrFormat
			}
			if i, e := image.Decode(changed); e != want || i != (image.Image{}) {
				t.Fatalf("with the byte %d changed by %d, Decode = %+v, %d", at, by, i, e)
			}
		}
	}
}
