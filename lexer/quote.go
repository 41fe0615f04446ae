package lexer

import (
	"strconv"
	"strings"

	"replevin/api"
)

// escapes has, for each byte that an escape of two bytes denotes, the second one of these, and otherwise 0.
var escapes = [...]byte{0: '0', '\t': 't', '\n': 'n', '"': '"', '\'': '\'', '\\': '\\'}

// Quote returns the text of a string that denotes bytes.
func Quote(s string) (string, api.Errno) {
	if len(s) > MaxString {
		return "", api.ErrLong
	}
	var b strings.Builder
	b.WriteByte('"')
	for i := range len(s) {
		b.WriteString(quoted(s[i]))
	}
	b.WriteByte('"')
	return b.String(), api.OK
}

// quoted returns what denotes a byte in a string, where an apostrophe needs no escape.
func quoted(c byte) string {
	switch {
	case c != '\'' && int(c) < len(escapes) && escapes[c] != 0:
		return string([]byte{'\\', escapes[c]})
	case isPlain(c):
		return string([]byte{c})
	}
	// The number has two digits with the one before it.
	return "\\x" + strconv.FormatInt(0x100+int64(c), 16)[1:]
}

// unquote returns the byte that the beginning of a text denotes in a character or a string, and how many bytes denote it; with ErrByte, it returns the offset of the error instead.
func unquote(s string) (denoted byte, size int, e api.Errno) {
	switch {
	case s == "":
		return 0, 0, api.ErrShort
	case !isPlain(s[0]):
		return 0, 0, api.ErrByte
	case s[0] == '\\':
		return unescape(s)
	}
	return s[0], 1, api.OK
}

// unescape does the same for a text that begins with a backslash.
func unescape(s string) (denoted byte, size int, e api.Errno) {
	switch {
	case len(s) == 1:
		return 0, 0, api.ErrShort
	case s[1] == 'x':
		return unescapeNumber(s)
	}
	for c, letter := range escapes {
		// A letter 0 says that there is no escape.
		if letter != 0 && letter == s[1] {
			return byte(c), 2, api.OK
		}
	}
	return 0, 1, api.ErrByte
}

// unescapeNumber does the same for an escape with two digits.
func unescapeNumber(s string) (denoted byte, size int, e api.Errno) {
	for at := 2; at < 4; at++ {
		switch {
		case at == len(s):
			return 0, 0, api.ErrShort
		case !isHex(s[at]):
			return 0, at, api.ErrByte
		}
	}
	n, _ := strconv.ParseUint(s[2:4], 16, 8)
	return byte(n), 4, api.OK
}
