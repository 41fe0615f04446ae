package asm

import (
	"strconv"
	"strings"
)

// escapes has the letters of the escapes that stand for one byte, each followed by the byte.
const escapes = "n\nt\t0\x00\\\\\"\""

// Quote returns the text of a string in a program.
func Quote(s string) string {
	var b strings.Builder
	b.WriteByte('"')
	for i := range len(s) {
		b.WriteString(escaped(s[i]))
	}
	b.WriteByte('"')
	return b.String()
}

func escaped(c byte) string {
	for i := 0; i < len(escapes); i += 2 {
		if escapes[i+1] == c {
			return "\\" + escapes[i:i+1]
		}
	}
	if isPlain(c) {
		return string([]byte{c})
	}
	// The number has two digits with the one before it.
	return "\\x" + strconv.FormatInt(0x100+int64(c), 16)[1:]
}

func isPlain(c byte) bool { return c >= 32 && c <= 126 }

// unquote returns what the string at the beginning of a text denotes, and the size of the string, or 0 if it is not permitted.
func unquote(s string) (string, int) {
	var b []byte
	for at := 1; at < len(s); {
		switch {
		case s[at] == '"':
			return string(b), at + 1
		case !isPlain(s[at]):
			return "", 0
		}
		c, size := s[at], 1
		if c == '\\' {
			c, size = unescape(s[at:])
		}
		if size == 0 {
			return "", 0
		}
		b = append(b, c)
		at += size
	}
	return "", 0
}

// unescape returns the byte for which the escape at the beginning of a text stands, and the size of the escape, or 0 if it is not permitted.
func unescape(s string) (byte, int) {
	if len(s) >= 4 && s[1] == 'x' && isHex(s[2]) && isHex(s[3]) {
		n, _ := strconv.ParseUint(s[2:4], 16, 8)
		return byte(n), 4
	}
	for i := 0; i < len(escapes) && len(s) >= 2; i += 2 {
		if escapes[i] == s[1] {
			return escapes[i+1], 2
		}
	}
	return 0, 0
}
