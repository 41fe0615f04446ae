package image_test

import (
	"math/rand/v2"
	"slices"
	"strings"
	"testing"

	"replevin/api"
	"replevin/image"
)

// code returns some bytes of code.
func code(n int) string { return strings.Repeat("abcd", n/4) + "abcd"[:n%4] }

func data(n int) string { return strings.Repeat("x", n) }

// The limits of the chapter.
func TestLimits(t *testing.T) {
	if image.MaxMemory != 4096 || image.MaxBytes != 4200 || image.Magic != "\x7fRPL" {
		t.Errorf("%d %d %q", image.MaxMemory, image.MaxBytes, image.Magic)
	}
}

// errorCases are images with their errors; where several conditions hold, the first one counts.
var errorCases = []struct {
	i    image.Image
	want api.Errno
}{
	{image.Image{Code: code(4)}, api.OK}, {image.Image{Code: "\xff\xff\xff\xff"}, api.OK}, {image.Image{Code: "\x00\x00\x00\x00"}, api.OK}, {image.Image{Code: code(64), Data: data(64), Zero: 64, Entry: 60}, api.OK},
	{image.Image{}, api.ErrArgument}, {image.Image{Data: "x"}, api.ErrArgument}, {image.Image{Zero: -1}, api.ErrArgument}, {image.Image{Zero: 5000}, api.ErrArgument}, {image.Image{Data: data(5000)}, api.ErrArgument}, {image.Image{Entry: 4}, api.ErrArgument},
	{image.Image{Code: code(1)}, api.ErrFormat}, {image.Image{Code: code(2)}, api.ErrFormat}, {image.Image{Code: code(3)}, api.ErrFormat}, {image.Image{Code: code(5)}, api.ErrFormat}, {image.Image{Code: code(4095)}, api.ErrFormat}, {image.Image{Code: code(4097)}, api.ErrFormat}, {image.Image{Code: code(6), Zero: -1}, api.ErrFormat}, {image.Image{Code: code(6), Zero: 4097}, api.ErrFormat}, {image.Image{Code: code(6), Data: data(4096)}, api.ErrFormat}, {image.Image{Code: code(6), Entry: 1}, api.ErrFormat},
	{image.Image{Code: code(4), Zero: -1}, api.ErrRange}, {image.Image{Code: code(4), Zero: least}, api.ErrRange}, {image.Image{Code: code(4), Zero: 4097}, api.ErrRange}, {image.Image{Code: code(4), Zero: most}, api.ErrRange}, {image.Image{Code: code(4), Data: data(5000), Zero: -1}, api.ErrRange}, {image.Image{Code: code(4), Data: data(5000), Zero: 4097}, api.ErrRange}, {image.Image{Code: code(4100), Zero: -1}, api.ErrRange}, {image.Image{Code: code(4), Data: data(4033), Zero: -1}, api.ErrRange},
	{image.Image{Code: code(4), Zero: 4032}, api.OK}, {image.Image{Code: code(4), Zero: 4033}, api.ErrLong}, {image.Image{Code: code(4), Zero: 4096}, api.ErrLong}, {image.Image{Code: code(64), Zero: 4032}, api.OK}, {image.Image{Code: code(68), Zero: 3968}, api.OK}, {image.Image{Code: code(68), Zero: 3969}, api.ErrLong},
	{image.Image{Code: code(4), Data: data(4032)}, api.OK}, {image.Image{Code: code(4), Data: data(4033)}, api.ErrLong}, {image.Image{Code: code(4), Data: data(4000), Zero: 32}, api.OK}, {image.Image{Code: code(4), Data: data(4000), Zero: 33}, api.ErrLong}, {image.Image{Code: code(4), Data: data(1), Zero: 4032}, api.ErrLong},
	{image.Image{Code: code(4096)}, api.OK}, {image.Image{Code: code(4092)}, api.OK}, {image.Image{Code: code(4100)}, api.ErrLong}, {image.Image{Code: code(4096), Data: "a"}, api.ErrLong}, {image.Image{Code: code(4096), Zero: 1}, api.ErrLong}, {image.Image{Code: code(4036), Data: "a"}, api.ErrLong}, {image.Image{Code: code(4036), Zero: 1}, api.ErrLong}, {image.Image{Code: code(4032), Data: data(64)}, api.OK}, {image.Image{Code: code(4), Zero: 4033, Entry: 1}, api.ErrLong}, {image.Image{Code: code(4), Data: data(4033), Entry: -4}, api.ErrLong}, {image.Image{Code: code(8192), Entry: 8192}, api.ErrLong},
	{image.Image{Code: code(8), Entry: 4}, api.OK}, {image.Image{Code: code(8), Entry: 8}, api.ErrRange}, {image.Image{Code: code(4), Entry: 4}, api.ErrRange}, {image.Image{Code: code(8), Entry: -4}, api.ErrRange}, {image.Image{Code: code(8), Entry: -1}, api.ErrRange}, {image.Image{Code: code(8), Entry: 1}, api.ErrRange}, {image.Image{Code: code(8), Entry: 2}, api.ErrRange}, {image.Image{Code: code(8), Entry: 3}, api.ErrRange}, {image.Image{Code: code(8), Entry: 5}, api.ErrRange}, {image.Image{Code: code(8), Entry: most}, api.ErrRange}, {image.Image{Code: code(8), Entry: least}, api.ErrRange}, {image.Image{Code: code(8), Entry: most - 3}, api.ErrRange}, {image.Image{Code: code(4096), Entry: 4092}, api.OK}, {image.Image{Code: code(4096), Entry: 4096}, api.ErrRange}, {image.Image{Code: code(8), Data: data(64), Entry: 64}, api.ErrRange},
}

// P20.1
func TestCheck(t *testing.T) {
	for k, x := range errorCases {
		if e := x.i.Check(); e != x.want {
			t.Errorf("%d: Check = %d; want %d", k, e, x.want)
		}
		if e := checked(x.i); e != x.want {
			t.Errorf("%d: the model's error is %d; want %d", k, e, x.want)
		}
	}
}

// P20.2: the examples of the chapter, and the bounds of pages.
func TestPlaces(t *testing.T) {
	for k, x := range []struct {
		i                  image.Image
		dataAt, end, pages int
	}{
		{image.Image{Code: code(4), Data: "ab", Zero: 3}, 64, 69, 2}, {image.Image{Code: code(4096)}, 4096, 4096, 64}, {image.Image{Code: code(4092)}, 4096, 4096, 64},
		{image.Image{Code: code(4)}, 64, 64, 1}, {image.Image{Code: code(60)}, 64, 64, 1}, {image.Image{Code: code(64)}, 64, 64, 1}, {image.Image{Code: code(68)}, 128, 128, 2}, {image.Image{Code: code(128)}, 128, 128, 2},
		{image.Image{Code: code(64), Data: "a"}, 64, 65, 2}, {image.Image{Code: code(64), Zero: 1}, 64, 65, 2}, {image.Image{Code: code(64), Data: data(64)}, 64, 128, 2}, {image.Image{Code: code(64), Data: data(63), Zero: 1}, 64, 128, 2}, {image.Image{Code: code(64), Data: data(63), Zero: 2}, 64, 129, 3}, {image.Image{Code: code(64), Data: data(65)}, 64, 129, 3},
		{image.Image{Code: code(4), Zero: 4032}, 64, 4096, 64}, {image.Image{Code: code(4), Zero: 3968}, 64, 4032, 63}, {image.Image{Code: code(4), Zero: 3969}, 64, 4033, 64},
	} {
		if dataAt, end, pages := x.i.DataAt(), x.i.End(), x.i.NumPages(); dataAt != x.dataAt || end != x.end || pages != x.pages {
			t.Errorf("%d: the data at %d, the end %d, %d pages; want %d, %d, %d", k, dataAt, end, pages, x.dataAt, x.end, x.pages)
		}
		checkMemory(t, x.i)
	}
}

// checkMemory compares the bytes and the pages of an image with those of the model.
func checkMemory(t *testing.T, i image.Image) {
	t.Helper()
	want := loaded(i)
	if m := i.Memory(); m != want {
		t.Fatalf("%+v: the memory is %q; want %q", i, m, want)
	}
	pages := i.Pages()
	if len(pages) != len(want)/64 || i.NumPages() != len(pages) {
		t.Fatalf("%+v: %d and %d pages; want %d", i, i.NumPages(), len(pages), len(want)/64)
	}
	for k, page := range pages {
		if page != want[64*k:64*k+64] {
			t.Fatalf("%+v: the page %d is %q; want %q", i, k, page, want[64*k:64*k+64])
		}
	}
}

// P20.2
func TestMemory(t *testing.T) {
	i := image.Image{Code: code(68), Data: "data", Zero: 61}
	if m, want := i.Memory(), code(68)+strings.Repeat("\x00", 60)+"data"+strings.Repeat("\x00", 124); m != want {
		t.Errorf("%q; want %q", m, want)
	}
	// Not all the bytes that follow the data belong to zero bytes of the image.
	if m, want := (image.Image{Code: code(4), Data: "ab", Zero: 3}).Memory(), code(4)+strings.Repeat("\x00", 60)+"ab"+strings.Repeat("\x00", 62); m != want {
		t.Errorf("%q; want %q", m, want)
	}
}

// P20.2: an image that is not valid has no addresses and no bytes.
func TestNotValid(t *testing.T) {
	for k, x := range errorCases {
		dataAt, end, pages, list, memory := x.i.DataAt(), x.i.End(), x.i.NumPages(), x.i.Pages(), x.i.Memory()
		if zero := dataAt == 0 && end == 0 && pages == 0 && len(list) == 0 && memory == ""; zero != (x.want != api.OK) {
			t.Errorf("%d: the data at %d, the end %d, %d and %d pages, %d bytes", k, dataAt, end, pages, len(list), len(memory))
		}
	}
}

// P20.1 and P20.2
func TestRandomImages(t *testing.T) {
	random := rand.New(rand.NewPCG(1, 20))
	counts := map[api.Errno]int{}
	for range 20000 {
		i := someImage(random)
		want := checked(i)
		counts[want]++
		if e := i.Check(); e != want {
			t.Fatalf("%+v: Check = %d; want %d", i, e, want)
		}
		if want == api.OK {
			at := (len(i.Code) + 63) / 64 * 64
			if i.DataAt() != at || i.End() != at+len(i.Data)+i.Zero {
				t.Fatalf("%+v: the data at %d, the end %d", i, i.DataAt(), i.End())
			}
			checkMemory(t, i)
		} else if i.DataAt() != 0 || i.End() != 0 || i.NumPages() != 0 || len(i.Pages()) != 0 || i.Memory() != "" {
			t.Fatalf("%+v is not valid, but has addresses or bytes", i)
		}
	}
	for _, e := range []api.Errno{api.OK, api.ErrArgument, api.ErrFormat, api.ErrRange, api.ErrLong} {
		if counts[e] < 300 {
			t.Errorf("the error %d occurs %d times", e, counts[e])
		}
	}
}

// P20.5
func TestPagesAreNew(t *testing.T) {
	i := image.Image{Code: code(68), Data: "data", Zero: 61, Entry: 8}
	before := i.Pages()
	kept := slices.Clone(before)
	for k := range before {
		before[k] = "changed"
	}
	if !slices.Equal(i.Pages(), kept) {
		t.Error("a change of the pages has changed those of the image")
	}
}
