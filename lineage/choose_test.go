package lineage_test

import (
	"crypto/sha256"
	"encoding/binary"
	"math"
	"testing"

	"replevin/api"
	"replevin/lineage"
)

// modelChoose computes a choice with numbers of 64 bits and the library's digests.
func modelChoose(seed [32]byte, n lineage.Name, count, limit int) int {
	text := append(seed[:], n...)
	text = append(text, 0)
	text = binary.BigEndian.AppendUint64(text, uint64(count))
	digest := sha256.Sum256(text)
	return int(binary.BigEndian.Uint64(digest[:8]) >> 8 % uint64(limit))
}

func someSeeds() [][32]byte {
	seeds := [][32]byte{{}, {1}, {31: 1}}
	var all [32]byte
	for i := range all {
		all[i] = byte(3*i + 200)
	}
	return append(seeds, all)
}

// P3.5
func TestChoose(t *testing.T) {
	for _, seed := range someSeeds() {
		for _, n := range someNames() {
			for _, count := range []int{0, 1, 2, 255, 256, 65536, 1 << 31, 1 << 40, math.MaxInt} {
				for _, limit := range []int{1, 2, 3, 10, 255, 256, 1000003, 1<<31 - 1, 1 << 31} {
					got, e := lineage.Choose(seed, n, count, limit)
					if want := modelChoose(seed, n, count, limit); got != want || e != api.OK {
						t.Fatalf("Choose(%x, %q, %d, %d) = %d, %d; want %d", seed, n, count, limit, got, e, want)
					}
				}
			}
		}
	}
}

// P3.5: numbers that were computed once and for all.
func TestChooseIsFixed(t *testing.T) {
	var seed [32]byte
	copy(seed[:], "the seed of a machine")
	for _, c := range []struct {
		n                  lineage.Name
		count, limit, want int
	}{
		{"", 0, 1, 0}, {"", 0, 2147483648, 1424315410}, {"7", 0, 2147483648, 585849732}, {"7.2", 0, 100, 67}, {"7.2", 1, 100, 42}, {"7.2", 256, 2147483648, 2108630665}, {"999999", 1099511627777, 2147483647, 1853131725},
	} {
		if got, e := lineage.Choose(seed, c.n, c.count, c.limit); got != c.want || e != api.OK {
			t.Errorf("Choose(%q, %d, %d) = %d, %d; want %d", c.n, c.count, c.limit, got, e, c.want)
		}
	}
}

// P3.5
func TestChooseErrors(t *testing.T) {
	for _, c := range []struct {
		n            lineage.Name
		count, limit int
		want         api.Errno
	}{
		{"x", 0, 5, api.ErrName},
		{"x", -1, 5, api.ErrName},
		{"x", 0, 0, api.ErrName},
		{"3.", 0, 5, api.ErrName},
		{"1.1.1.1.1.1.1.1.1", 0, 5, api.ErrName},
		{"1", -1, 5, api.ErrRange},
		{"1", math.MinInt, 5, api.ErrRange},
		{"1", 0, 0, api.ErrRange},
		{"1", 0, -1, api.ErrRange},
		{"1", 0, math.MinInt, api.ErrRange},
		{"1", 0, 1<<31 + 1, api.ErrRange},
		{"1", 0, math.MaxInt, api.ErrRange},
		{"", -1, 0, api.ErrRange},
	} {
		for _, seed := range someSeeds() {
			if got, e := lineage.Choose(seed, c.n, c.count, c.limit); got != 0 || e != c.want {
				t.Errorf("Choose(%q, %d, %d) = %d, %d; want %d", c.n, c.count, c.limit, got, e, c.want)
			}
		}
	}
}
