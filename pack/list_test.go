package pack_test

import (
	"bytes"
	"math/rand/v2"
	"slices"
	"testing"

	"replevin/api"
	"replevin/pack"
)

func texts(l ...string) [][]byte {
	b := make([][]byte, len(l))
	for i := range l {
		b[i] = []byte(l[i])
	}
	return b
}

func checkLists(t *testing.T, got, want [][]byte) {
	t.Helper()
	if !slices.EqualFunc(got, want, bytes.Equal) {
		t.Errorf("%q; want %q", got, want)
	}
}

// P15.5
func TestLists(t *testing.T) {
	l := texts("abcdef", "abcdxf", "", "abcd", "abcdabcd")
	p, e := pack.PackList(l)
	if e != api.OK {
		t.Error(e)
	}
	checkLists(t, p, texts("\x05abcdef", "\x80\x00\x05\x01xf", "", "\x03abcd", "\x84\x00\x03"))
	b, index, e := pack.UnpackList(p, 8)
	if index != 0 || e != api.OK {
		t.Error(index, e)
	}
	checkLists(t, b, l)
	checkLists(t, l, texts("abcdef", "abcdxf", "", "abcd", "abcdabcd"))
}

// P15.5
func TestRandomLists(t *testing.T) {
	random := rand.New(rand.NewPCG(10, 15))
	for range 300 {
		l := make([][]byte, random.IntN(6))
		for i := range l {
			l[i] = someBytes(random, random.IntN(80), 4)
		}
		p, e := pack.PackList(l)
		if e != api.OK || len(p) != len(l) {
			t.Fatalf("PackList of %d elements: %d, %d", len(l), len(p), e)
		}
		var before []byte
		for i := range l {
			if want := bytesOf(canonical(before, l[i])...); !bytes.Equal(p[i], want) {
				t.Fatalf("the element %d of %q is packed as %q; want %q", i, l, p[i], want)
			}
			before = l[i]
		}
		b, index, e := pack.UnpackList(p, 80)
		if index != 0 || e != api.OK {
			t.Fatal(index, e)
		}
		checkLists(t, b, l)
	}
}

// P15.5
func TestListErrors(t *testing.T) {
	fits, tooLong := make([]byte, pack.MaxBytes), make([]byte, pack.MaxBytes+1)
	for _, x := range []struct {
		l    [][]byte
		want api.Errno
	}{{[][]byte{fits, fits}, api.OK}, {[][]byte{tooLong}, api.ErrLong}, {[][]byte{nil, tooLong}, api.ErrLong}, {[][]byte{tooLong, nil}, api.ErrLong}, {[][]byte{nil, fits, tooLong, nil}, api.ErrLong}} {
		if p, e := pack.PackList(x.l); e != x.want || e != api.OK && p != nil {
			t.Errorf("PackList = %d elements, %d; want %d", len(p), e, x.want)
		}
	}
	for _, x := range []struct {
		l     []string
		most  int
		index int
		want  api.Errno
	}{
		{[]string{"\x00a"}, -1, 0, api.ErrRange}, {[]string{"\x00a"}, pack.MaxBytes + 1, 0, api.ErrRange}, {[]string{""}, -1, 0, api.ErrRange}, {[]string{"\x00"}, large, 0, api.ErrRange},
		{[]string{"", "\x00"}, 9, 1, api.ErrTruncated}, {[]string{"", "", "\x80\x00\x00"}, 9, 2, api.ErrRange}, {[]string{"\x00a", "", "\x80\x00\x00"}, 9, 2, api.ErrRange}, {[]string{"\x00a", "\x80\x00\x01"}, 9, 1, api.ErrRange},
		{[]string{"\x00a", "\x01bc"}, 1, 1, api.ErrLong}, {[]string{"\x02abc", "\x00", "\x80"}, 2, 0, api.ErrLong}, {[]string{"\x00a", "\x00", "\x80"}, 2, 1, api.ErrTruncated},
	} {
		if b, index, e := pack.UnpackList(texts(x.l...), x.most); b != nil || index != x.index || e != x.want {
			t.Errorf("UnpackList(%q, %d) = %q, %d, %d; want %d, %d", x.l, x.most, b, index, e, x.index, x.want)
		}
	}
	// An element is as long as most permits, although all together are longer.
	if b, _, e := pack.UnpackList(texts("\x00a", "\x80\x00\x00", "\x80\x00\x03"), 4); e != api.OK || len(b) != 3 {
		t.Errorf("UnpackList = %q, %d", b, e)
	}
}

// P15.5: an empty list has no element that could be too long.
func TestEmptyLists(t *testing.T) {
	for _, l := range [][][]byte{nil, {}} {
		if p, e := pack.PackList(l); len(p) != 0 || e != api.OK {
			t.Errorf("PackList = %q, %d", p, e)
		}
		for _, most := range []int{-large - 1, -1, 0, pack.MaxBytes, large} {
			if b, index, e := pack.UnpackList(l, most); len(b) != 0 || index != 0 || e != api.OK {
				t.Errorf("UnpackList(%d) = %q, %d, %d", most, b, index, e)
			}
		}
	}
}

// P15.6
func TestListsAreNew(t *testing.T) {
	l := texts("abcdefgh", "abcdefgh", "xyz")
	p, _ := pack.PackList(l)
	b, _, _ := pack.UnpackList(p, 100)
	for i := range l {
		clear(l[i])
		clear(p[i][:cap(p[i])])
	}
	clear(b[0][:cap(b[0])])
	clear(b[2][:cap(b[2])])
	if string(b[1]) != "abcdefgh" {
		t.Errorf("the elements share memory: %q", b)
	}
	p, _ = pack.PackList(texts("abcdefgh", "abcdefgh", "xyz"))
	clear(p[0][:cap(p[0])])
	clear(p[2][:cap(p[2])])
	if string(p[1]) != "\x84\x00\x07" {
		t.Errorf("the packed elements share memory: %q", p)
	}
}
