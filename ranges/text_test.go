package ranges_test

import (
	"math/rand/v2"
	"strconv"
	"strings"
	"testing"

	"replevin/api"
	"replevin/ranges"
)

// P7.5
func TestText(t *testing.T) {
	for text, l := range map[string][]span{
		"":                  nil,
		"3+1 8+4":           {{From: 3, To: 4}, {From: 8, To: 10}, {From: 9, To: 12}},
		"0+1":               {{From: 0, To: 1}},
		"0+1099511627776":   {{From: 0, To: ranges.MaxPosition}},
		"1+1099511627775":   {{From: 1, To: ranges.MaxPosition}},
		"1099511627775+1":   {{From: ranges.MaxPosition - 1, To: ranges.MaxPosition}},
		"0+10 20+100 121+1": {{From: 121, To: 122}, {From: 20, To: 120}, {From: 0, To: 10}},
	} {
		s := set(t, l...)
		if s.Text() != text {
			t.Errorf("Text of %v = %q; want %q", l, s.Text(), text)
		}
		if parsed, at, e := ranges.Parse(text); !ranges.Equal(parsed, s) || at != 0 || e != api.OK {
			t.Errorf("Parse(%q) = %v, %d, %d", text, parsed.Ranges(), at, e)
		}
	}
}

// P7.5
func TestParseErrors(t *testing.T) {
	for _, x := range []struct {
		t  string
		at int
		e  api.Errno
	}{
		// Items that are not two numbers with a plus sign between them.
		{" ", 0, api.ErrFormat}, {"+", 0, api.ErrFormat}, {"3", 0, api.ErrFormat}, {"3+", 0, api.ErrFormat}, {"+3", 0, api.ErrFormat}, {"3-4", 0, api.ErrFormat}, {"3++4", 0, api.ErrFormat}, {"3+4+", 0, api.ErrFormat},
		{"3+2+1", 0, api.ErrFormat}, {"+3+4", 0, api.ErrFormat}, {"-3+4", 0, api.ErrFormat}, {"3+-4", 0, api.ErrFormat}, {"a+1", 0, api.ErrFormat}, {"1+a", 0, api.ErrFormat}, {"1+1a", 0, api.ErrFormat}, {"0x1+1", 0, api.ErrFormat}, {"1_0+1", 0, api.ErrFormat},
		{"1:+1", 0, api.ErrFormat}, {"1/+1", 0, api.ErrFormat}, {"3+1\n", 0, api.ErrFormat}, {"3+1\t5+1", 0, api.ErrFormat}, {"\u0663+1", 0, api.ErrFormat}, {"3+1,5+1", 0, api.ErrFormat}, {"3+1\x00", 0, api.ErrFormat}, {"\xff", 0, api.ErrFormat},
		// Spaces.
		{" 3+1", 0, api.ErrFormat}, {"3+1 ", 4, api.ErrFormat}, {"3+2  8+4", 4, api.ErrFormat}, {"3 +1", 0, api.ErrFormat}, {"3+ 1", 0, api.ErrFormat}, {"  ", 0, api.ErrFormat},
		// Zeros and digits.
		{"03+1", 0, api.ErrFormat}, {"3+01", 0, api.ErrFormat}, {"00+1", 0, api.ErrFormat}, {"3+00", 0, api.ErrFormat}, {"0+0", 0, api.ErrRange}, {"0+1", 0, api.OK}, {"0000000000000+1", 0, api.ErrFormat},
		{"99999999999999+1", 0, api.ErrFormat}, {"10000000000000+1", 0, api.ErrFormat}, {"9999999999999+1", 0, api.ErrRange}, {"0+99999999999999", 0, api.ErrFormat}, {"0+9999999999999", 0, api.ErrRange},
		{"18446744073709551617+1", 0, api.ErrFormat}, {"0+18446744073709551617", 0, api.ErrFormat},
		// Positions.
		{"3+0", 0, api.ErrRange}, {"1099511627775+1", 0, api.OK}, {"1099511627775+2", 0, api.ErrRange}, {"1099511627776+1", 0, api.ErrRange}, {"1099511627776+0", 0, api.ErrRange}, {"0+1099511627776", 0, api.OK}, {"1+1099511627776", 0, api.ErrRange}, {"0+1099511627777", 0, api.ErrRange},
		// The order of items.
		{"3+2 5+1", 4, api.ErrSequence}, {"3+2 6+1", 0, api.OK}, {"3+2 4+1", 4, api.ErrSequence}, {"3+2 3+2", 4, api.ErrSequence}, {"3+2 2+1", 4, api.ErrSequence}, {"3+2 1+9", 4, api.ErrSequence}, {"3+2 0+1", 4, api.ErrSequence}, {"3+2 0+2", 4, api.ErrSequence},
		{"0+1099511627775 1099511627775+1", 16, api.ErrSequence}, {"0+1099511627774 1099511627775+1", 0, api.OK},
		// The first item that has an error, and the first of its errors.
		{"3+2 8+4 x", 8, api.ErrFormat}, {"3+2 8+4 9+1 x", 8, api.ErrSequence}, {"3+0 x", 0, api.ErrRange}, {"x 3+0", 0, api.ErrFormat}, {"5+1 3+0", 4, api.ErrRange}, {"5+1 03+0", 4, api.ErrFormat}, {"5+1 3+9999999999999", 4, api.ErrRange}, {"5+1 3+99999999999999", 4, api.ErrFormat},
		{"100+20 121+9 130+1", 13, api.ErrSequence},
	} {
		s, at, e := ranges.Parse(x.t)
		if at != x.at || e != x.e || e != api.OK && !s.Empty() || e == api.OK && s.Text() != x.t {
			t.Errorf("Parse(%q) = %v, %d, %d; want %d, %d", x.t, s.Ranges(), at, e, x.at, x.e)
		}
	}
}

// P7.5
func TestLimitOfParse(t *testing.T) {
	most := set(t, apart(ranges.MaxRanges, 0)...)
	text := most.Text()
	if s, at, e := ranges.Parse(text); !ranges.Equal(s, most) || at != 0 || e != api.OK {
		t.Errorf("Parse of as many items as permitted = %d ranges, %d, %d", len(s.Ranges()), at, e)
	}
	// Any further item has this error, whatever it is.
	for _, more := range []string{"9000+1", "x", "", "0+1", "9000+0", "9000+1 9002+1", "x 9002+1", " "} {
		if s, at, e := ranges.Parse(text + " " + more); !s.Empty() || at != len(text)+1 || e != api.ErrLimit {
			t.Errorf("Parse with %q = %d, %d; want %d, ErrLimit", more, at, e, len(text)+1)
		}
	}
	last := strings.LastIndexByte(text, ' ') + 1
	for item, want := range map[string]api.Errno{"x": api.ErrFormat, "": api.ErrFormat, "9000+0": api.ErrRange, "0+1": api.ErrSequence} {
		if s, at, e := ranges.Parse(text[:last] + item + " 9000+1"); !s.Empty() || at != last || e != want {
			t.Errorf("Parse with the last item %q = %d, %d; want %d, %d", item, at, e, last, want)
		}
	}
}

// modelParse follows the rules item by item with the numbers of the library.
func modelParse(t string) (at int, e api.Errno) {
	if t == "" {
		return 0, api.OK
	}
	// A set without elements is followed by any position.
	end := int64(-1)
	for i, item := range strings.Split(t, " ") {
		numbers := strings.Split(item, "+")
		var l [2]int64
		for j, s := range numbers {
			n, err := strconv.ParseUint(s, 10, 44)
			if err != nil || len(numbers) != 2 || len(s) > 13 || strconv.FormatUint(n, 10) != s {
				return at, api.ErrFormat
			}
			l[j] = int64(n)
		}
		switch {
		case i >= ranges.MaxRanges:
			return at, api.ErrLimit
		case len(numbers) != 2:
			return at, api.ErrFormat
		case l[1] == 0 || l[0] >= ranges.MaxPosition || l[0]+l[1]-1 >= ranges.MaxPosition:
			return at, api.ErrRange
		case l[0] <= end:
			return at, api.ErrSequence
		}
		end = l[0] + l[1]
		at += len(item) + 1
	}
	return 0, api.OK
}

// P7.5, P7.6: texts that are accepted are those of the sets.
func TestParseOfChangedTexts(t *testing.T) {
	random := rand.New(rand.NewPCG(9, 9))
	accepted, refused := 0, 0
	for range 40000 {
		text := []byte(someModel(random, bases()[random.IntN(3)]).text())
		for range random.IntN(3) {
			at := random.IntN(len(text) + 1)
			switch b := "0123456789++  x"[random.IntN(15)]; {
			case at == len(text):
				text = append(text, b)
			case random.IntN(4) == 0:
				text = append(text[:at], text[at+1:]...)
			default:
				text[at] = b
			}
		}
		s, at, e := ranges.Parse(string(text))
		wantAt, want := modelParse(string(text))
		if at != wantAt || e != want {
			t.Fatalf("Parse(%q) = %d, %d; want %d, %d", text, at, e, wantAt, want)
		}
		if e != api.OK {
			refused++
			if !s.Empty() {
				t.Fatalf("Parse(%q) returns a set and %d", text, e)
			}
			continue
		}
		accepted++
		if s.Text() != string(text) {
			t.Fatalf("Parse(%q) has the text %q", text, s.Text())
		}
	}
	if accepted < 5000 || refused < 5000 {
		t.Errorf("%d texts were accepted, and %d refused", accepted, refused)
	}
}
