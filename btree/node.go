package btree

import (
	"strings"

	"replevin/api"
	"replevin/disk"
)

// A block has the kind of its node, the number of its parts, and the parts. Bytes 0 follow, and the check.
const (
	leafKind  = 'L'
	innerKind = 'I'
	headSize  = 2
	checkSize = 4
	room      = disk.BlockSize - checkSize
)

// node is a leaf or an inner node. Its parts are the entries of a leaf or the children of an inner node, in the order of their keys.
type node interface {
	kind() byte
	// read appends a number of parts, and write writes all of them behind other bytes.
	read(s *source, count int)
	write(b []byte) []byte
	count() int
	// least returns how many parts there are at least.
	least() int
	// size returns the number of bytes of a part.
	size(i int) int
	// cut divides the parts between the node and a new one that has those from an index on.
	cut(at int) node
	// key returns the key of the first part.
	key() string
	// ends returns the least and the greatest key of the bytes.
	ends() (string, string)
	below() []child
}

// encode returns the bytes of the block of a node.
func encode(n node) []byte {
	b := make([]byte, 0, disk.BlockSize)
	b = n.write(append(b, n.kind(), byte(n.count())))
	b = append(b, make([]byte, room-len(b))...)
	return append(b, check(string(b))...)
}

// decode returns the node whose block has some bytes.
func decode(s string) (node, api.Errno) {
	if s[room:] != check(s[:room]) {
		return nil, api.ErrChecksum
	}
	var n node
	switch s[0] {
	case leafKind:
		n = &leaf{}
	case innerKind:
		n = &inner{}
	default:
		return nil, api.ErrFormat
	}
	r := source{rest: s[headSize:room]}
	n.read(&r, int(s[1]))
	if r.failed || n.count() < n.least() || strings.Trim(r.rest, "\x00") != "" {
		return nil, api.ErrFormat
	}
	return n, api.OK
}

// The remainders of four bits when they are divided by the polynomial of the CRC-32.
var remainders = [16]uint32{
	0x00000000, 0x1db71064, 0x3b6e20c8, 0x26d930ac, 0x76dc4190, 0x6b6b51f4, 0x4db26158, 0x5005713c,
	0xedb88320, 0xf00f9344, 0xd6d6a3e8, 0xcb61b38c, 0x9b64c2b0, 0x86d3d2d4, 0xa00ae278, 0xbdbdf21c,
}

// check returns the CRC-32 of some bytes, the least significant byte first.
func check(s string) string {
	c := ^uint32(0)
	for i := range len(s) {
		c ^= uint32(s[i])
		for range 2 {
			c = c>>4 ^ remainders[c&15]
		}
	}
	c = ^c
	return string([]byte{byte(c), byte(c >> 8), byte(c >> 16), byte(c >> 24)})
}

// source takes the parts of a node from the bytes that are left. When it has failed, it takes nothing more.
type source struct {
	rest   string
	last   string // the key that was taken last
	failed bool
}

// text takes a number of bytes, which is limited.
func (s *source) text(size, most int) string {
	if s.failed || size > most || size > len(s.rest) {
		s.failed = true
		return ""
	}
	t := s.rest[:size]
	s.rest = s.rest[size:]
	return t
}

// number takes a number of some bytes, the most significant one first.
func (s *source) number(size int) int {
	n := 0
	for _, b := range []byte(s.text(size, size)) {
		n = n<<8 | int(b)
	}
	return n
}

// key takes a key, which is greater than the one before it.
func (s *source) key() string {
	key := s.text(s.number(1), MaxKey)
	if key <= s.last {
		s.failed = true
	}
	s.last = key
	return key
}

// pair returns the two bytes of a number, the most significant one first.
func pair(n int) []byte { return []byte{byte(n >> 8), byte(n)} }

// divide returns the nodes into which a node is divided so that each has room in a block: one, two, or, if the parts around a large one are too large together with it, three of them.
func divide(n node) []node {
	total := headSize
	for i := range n.count() {
		total += n.size(i)
	}
	if total <= room {
		return []node{n}
	}
	second := n.cut(middle(n, total))
	return append(divide(n), divide(second)...)
}

// middle returns the index at which the parts of a node, whose bytes have a number, are divided most evenly.
func middle(n node, total int) int {
	at, larger, ahead := 0, total, headSize
	for i := range n.count() {
		if part := max(ahead, total-ahead+headSize); part < larger && i >= n.least() && i <= n.count()-n.least() {
			at, larger = i, part
		}
		ahead += n.size(i)
	}
	return at
}
