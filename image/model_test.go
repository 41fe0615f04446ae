package image_test

import (
	"crypto/sha256"
	"encoding/binary"
	"math/rand/v2"

	"replevin/api"
	"replevin/image"
)

const (
	most  = int(^uint(0) >> 1)
	least = -most - 1
)

// checked is what Check returns.
func checked(i image.Image) api.Errno {
	pages := len(i.Code) / 64
	if len(i.Code)%64 != 0 {
		pages++
	}
	if len(i.Code) == 0 {
		return api.ErrArgument
	}
	if len(i.Code)%4 != 0 {
		return api.ErrFormat
	}
	if i.Zero < 0 || i.Zero > 4096 {
		return api.ErrRange
	}
	if 64*pages+len(i.Data)+i.Zero > 4096 {
		return api.ErrLong
	}
	for entry := 0; entry < len(i.Code); entry += 4 {
		if entry == i.Entry {
			return api.OK
		}
	}
	return api.ErrRange
}

// loaded is what Memory returns for a valid image.
func loaded(i image.Image) string {
	b := []byte(i.Code)
	for len(b)%64 != 0 {
		b = append(b, 0)
	}
	b = append(b, i.Data...)
	for range i.Zero {
		b = append(b, 0)
	}
	for len(b)%64 != 0 {
		b = append(b, 0)
	}
	return string(b)
}

// fields is the encoding of the fields of an image, valid or not, if no number is negative.
func fields(i image.Image) string {
	var b []byte
	for _, text := range []string{i.Code, i.Data} {
		b = binary.AppendUvarint(b, uint64(len(text)))
		b = append(b, text...)
	}
	b = binary.AppendUvarint(b, uint64(i.Zero))
	return string(binary.AppendUvarint(b, uint64(i.Entry)))
}

// file is an executable file with some fields.
func file(fields string) string {
	body := "\x7fRPL" + fields
	sum := sha256.Sum256([]byte(body))
	return body + string(sum[:8])
}

func someBytes(random *rand.Rand, n int) string {
	b := make([]byte, n)
	for i := range b {
		b[i] = byte(random.IntN(256))
	}
	return string(b)
}

// someLength returns a number that is near a limit sometimes.
func someLength(random *rand.Rand) int {
	switch random.IntN(8) {
	case 0:
		return 0
	case 1:
		return 64 * random.IntN(10)
	case 2:
		return 4096 - 32*random.IntN(3)
	case 3:
		return random.IntN(4200)
	}
	return random.IntN(300)
}

// someImage returns an image that has an error sometimes.
func someImage(random *rand.Rand) image.Image {
	i := image.Image{Code: someBytes(random, someLength(random)), Data: someBytes(random, someLength(random)), Zero: someLength(random)}
	if random.IntN(4) > 0 {
		i.Code = i.Code[:len(i.Code)/4*4]
	}
	if random.IntN(4) == 0 {
		i.Zero = 0
	}
	if random.IntN(20) == 0 {
		i.Zero = []int{-1, 4097, most, least}[random.IntN(4)]
	}
	if n := len(i.Code) / 4; n > 0 {
		i.Entry = 4 * random.IntN(n)
	}
	if random.IntN(6) == 0 {
		i.Entry += []int{1, 2, 3, -4, len(i.Code), most / 2, least / 2}[random.IntN(7)]
	}
	return i
}
