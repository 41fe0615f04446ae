package object_test

import (
	"encoding/binary"
	"strconv"
	"strings"

	"replevin/api"
	"replevin/lineage"
	"replevin/object"
)

// The model: a kind is described by its word, the letters of the fields that it uses, and its greatest index.
type kind struct {
	word   string
	fields string
	most   int
}

var kinds = []kind{
	{}, {"process", "O", 0}, {"registers", "O", 0}, {"page", "OI", 63}, {"table", "O", 0}, {"counter", "O", 0}, {"pending", "O", 0},
	{"node", "ON", 0}, {"block", "ONI", 63}, {"entry", "ONT", 0}, {"listing", "ON", 0}, {"pipe", "ON", 0}, {"lock", "ON", 0},
	{"terminal", "N", 0}, {"account", "T", 0}, {"clock", "", 0}, {"port", "N", 0}, {"box", "T", 0}, {"out", "ONI", 1 << 30}, {"shell", "O", 0}, {"epoch", "", 0},
}

func (k kind) uses(field string) bool { return strings.Contains(k.fields, field) }

func modelWord(s string) bool {
	return len(s) >= 1 && len(s) <= 32 && strings.Trim(s, "!\"#$%&'()*+,-.0123456789:;<=>?@ABCDEFGHIJKLMNOPQRSTUVWXYZ[\\]^_`abcdefghijklmnopqrstuvwxyz{|}~") == "" && !strings.Contains(s, "/")
}

func modelCheck(n object.Name) api.Errno {
	if n.Kind < 1 || n.Kind > 20 {
		return api.ErrKind
	}
	k := kinds[n.Kind]
	for field, zero := range map[string]bool{"O": n.Owner == "", "N": n.Number == 0, "I": n.Index == 0, "T": n.Text == ""} {
		if !zero && !k.uses(field) {
			return api.ErrArgument
		}
	}
	if k.uses("O") && !lineage.Valid(n.Owner) {
		return api.ErrName
	}
	if k.uses("N") && (n.Number < 0 || n.Number > 1<<30) || k.uses("I") && (n.Index < 0 || n.Index > k.most) {
		return api.ErrRange
	}
	if k.uses("T") && !modelWord(n.Text) {
		return api.ErrName
	}
	return api.OK
}

// modelText returns the text of a valid name.
func modelText(n object.Name) string {
	owner := string(n.Owner)
	if owner == "" {
		owner = "0"
	}
	number, index := strconv.Itoa(n.Number), strconv.Itoa(n.Index)
	k := kinds[n.Kind]
	switch k.fields {
	case "O":
		return k.word + " " + owner
	case "OI":
		return k.word + " " + owner + " " + index
	case "ON":
		return k.word + " " + owner + "#" + number
	case "ONI":
		return k.word + " " + owner + "#" + number + " " + index
	case "ONT":
		return k.word + " " + owner + "#" + number + " " + n.Text
	case "N":
		return k.word + " " + number
	case "T":
		return k.word + " " + n.Text
	}
	return k.word
}

// modelEncoding returns the encoding of a valid name.
func modelEncoding(n object.Name) string {
	b := binary.AppendUvarint(nil, uint64(n.Kind))
	for _, field := range kinds[n.Kind].fields {
		switch field {
		case 'O':
			b = append(binary.AppendUvarint(b, uint64(len(n.Owner))), n.Owner...)
		case 'N':
			b = binary.AppendUvarint(b, uint64(n.Number))
		case 'I':
			b = binary.AppendUvarint(b, uint64(n.Index))
		case 'T':
			b = append(binary.AppendUvarint(b, uint64(len(n.Text))), n.Text...)
		}
	}
	return string(b)
}

// allNames returns names of all kinds, and of some numbers that are not kinds, with all combinations of some values of their fields. Few of them are valid.
func allNames() []object.Name {
	long := strings.Repeat("w", 32)
	var l []object.Name
	for k := -1; k <= 22; k++ {
		for _, owner := range []lineage.Name{"", "3.1", "999999.1.1.1.1.1.1.1", "01", "0", "1.1.1.1.1.1.1.1.1"} {
			for _, number := range []int{0, 2, 127, 128, 1 << 30, 1<<30 + 1, -1} {
				for _, index := range []int{0, 5, 63, 64, 1 << 30, 1<<30 + 1, -1} {
					for _, text := range []string{"", "ann", "#", "!~", long, long + "w", "a/b", "a b"} {
						l = append(l, object.Name{Kind: k, Owner: owner, Number: number, Index: index, Text: text})
					}
				}
			}
		}
	}
	return l
}

// validNames returns the valid ones of allNames.
func validNames() []object.Name {
	var l []object.Name
	for _, n := range allNames() {
		if modelCheck(n) == api.OK {
			l = append(l, n)
		}
	}
	return l
}
