package lexer

import (
	"slices"
	"strconv"
	"strings"

	"replevin/api"
)

// word finds an identifier or a keyword.
func word(rest string) (finding, bool) {
	if !isLetter(rest[0]) {
		return finding{}, false
	}
	t := Token{Kind: Ident, Text: wordOf(rest)}
	if len(t.Text) > MaxIdent {
		return finding{e: api.ErrLong}, true
	}
	if slices.Contains(Keywords(), t.Text) {
		t.Kind = Keyword
	}
	return finding{token: t}, true
}

// number finds a number that begins with a digit.
func number(rest string) (finding, bool) {
	if !isDigit(rest[0]) {
		return finding{}, false
	}
	t := Token{Kind: Number, Text: wordOf(rest)}
	var e api.Errno
	if digits, is := strings.CutPrefix(t.Text, "0x"); is {
		t.Value, e = hexadecimal(digits)
	} else {
		t.Value, e = decimal(t.Text)
	}
	return finding{token: t, e: e}, true
}

func hexadecimal(digits string) (int, api.Errno) {
	if len(digits) > 8 || !isMade(digits, isHex) {
		return 0, api.ErrFormat
	}
	n, _ := strconv.ParseUint(digits, 16, 32)
	return int(n), api.OK
}

func decimal(digits string) (int, api.Errno) {
	if digits != "0" && digits[0] == '0' || !isMade(digits, isDigit) {
		return 0, api.ErrFormat
	}
	n, err := strconv.ParseUint(digits, 10, 32)
	if err != nil {
		// Of nothing but digits, only the value can be wrong.
		return 0, api.ErrRange
	}
	return int(n), api.OK
}

// character finds a number that is a character between apostrophes.
func character(rest string) (finding, bool) {
	if rest[0] != '\'' {
		return finding{}, false
	}
	if strings.HasPrefix(rest[1:], "'") {
		return failed(1, api.ErrByte), true
	}
	denoted, size, e := unquote(rest[1:])
	end := 1 + size
	switch {
	case e != api.OK:
		return failed(end, e), true
	case end == len(rest):
		return failed(end, api.ErrShort), true
	case rest[end] != '\'':
		return failed(end, api.ErrByte), true
	}
	return finding{token: Token{Kind: Number, Text: rest[:end+1], Value: int(denoted)}}, true
}

// text finds a string.
func text(rest string) (finding, bool) {
	if rest[0] != '"' {
		return finding{}, false
	}
	var b []byte
	end := 1
	for !strings.HasPrefix(rest[end:], "\"") {
		denoted, size, e := unquote(rest[end:])
		if e != api.OK {
			return failed(end+size, e), true
		}
		b = append(b, denoted)
		end += size
	}
	if len(b) > MaxString {
		return finding{e: api.ErrLong}, true
	}
	return finding{token: Token{Kind: String, Text: rest[:end+1], Bytes: string(b)}}, true
}

// failed returns an error within a character or a string.
func failed(offset int, e api.Errno) finding {
	if e == api.ErrShort {
		// What is missing has no byte of its own.
		offset = 0
	}
	return finding{offset: offset, e: e}
}

// symbol finds the longest symbol, which is the last one that applies.
func symbol(rest string) (finding, bool) {
	for i := len(symbols) - 1; i >= 0; i-- {
		if strings.HasPrefix(rest, symbols[i]) {
			return finding{token: Token{Kind: Symbol, Text: symbols[i]}}, true
		}
	}
	return finding{}, false
}

// wordOf returns the letters and digits with which a text begins.
func wordOf(s string) string {
	for i := range len(s) {
		if !isLetter(s[i]) && !isDigit(s[i]) {
			return s[:i]
		}
	}
	return s
}

// isMade tells whether a text is not empty and has no other bytes than those that are permitted.
func isMade(s string, permitted func(c byte) bool) bool {
	for i := range len(s) {
		if !permitted(s[i]) {
			return false
		}
	}
	return s != ""
}

func isBlank(c byte) bool { return c == ' ' || c == '\t' || c == '\n' }

func isLetter(c byte) bool { return c >= 'a' && c <= 'z' || c >= 'A' && c <= 'Z' || c == '_' }

func isDigit(c byte) bool { return c >= '0' && c <= '9' }

func isHex(c byte) bool { return isDigit(c) || c >= 'a' && c <= 'f' }

func isPlain(c byte) bool { return c >= 32 && c <= 126 }
