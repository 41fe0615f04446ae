package asm

import (
	"strings"

	"replevin/api"
)

// The kinds of tokens.
const (
	aWord = iota
	aString
	aComma
	aColon
)

// token is a part of a line. The text of a string is what it denotes.
type token struct {
	kind int
	text string
}

// scan returns the tokens of a line.
func scan(line string) ([]token, api.Errno) {
	var l []token
	for at := 0; at < len(line); {
		size := 1
		switch c := line[at]; {
		case c == ';':
			return l, api.OK
		case c == ' ' || c == '\t':
		case c == ',':
			l = append(l, token{kind: aComma})
		case c == ':':
			l = append(l, token{kind: aColon})
		case c == '"':
			var text string
			text, size = unquote(line[at:])
			l = append(l, token{aString, text})
		default:
			size = wordSize(line[at:])
			l = append(l, token{aWord, line[at : at+size]})
		}
		if size == 0 {
			return nil, api.ErrByte
		}
		at += size
	}
	return l, api.OK
}

// wordSize returns the number of bytes of the word at the beginning of a text.
func wordSize(s string) int {
	for i := range len(s) {
		if !isWordByte(s[i]) {
			return i
		}
	}
	return len(s)
}

func isWordByte(c byte) bool {
	return isLetter(c) || isDigit(c) || c == '_' || c == '.' || c == '-'
}

func isLetter(c byte) bool { return c >= 'a' && c <= 'z' || c >= 'A' && c <= 'Z' }

func isDigit(c byte) bool { return c >= '0' && c <= '9' }

func isHex(c byte) bool { return isDigit(c) || c >= 'a' && c <= 'f' }

// IsLabel reports whether a text may be the name of a label.
func IsLabel(s string) bool {
	if s == "" || len(s) > MaxLabel || !isLetter(s[0]) && s[0] != '_' {
		return false
	}
	_, is := register(s)
	return !is && wordSize(s) == len(s) && !strings.Contains(s, "-")
}

// content is what a line says: its labels, and the word and the operands of its statement. Without a statement, the word is empty.
type content struct {
	labels   []string
	word     string
	operands []token
}

// parse divides the tokens of a line.
func parse(tokens []token) (content, api.Errno) {
	var c content
	for len(tokens) >= 2 && tokens[0].kind == aWord && tokens[1].kind == aColon {
		c.labels = append(c.labels, tokens[0].text)
		tokens = tokens[2:]
	}
	if len(tokens) == 0 {
		return c, api.OK
	}
	if tokens[0].kind != aWord {
		return content{}, api.ErrSyntax
	}
	c.word = tokens[0].text
	for i, t := range tokens[1:] {
		// Every other token is a comma, but not the last one.
		between := i%2 == 1
		if t.kind == aColon || between != (t.kind == aComma) || between && i == len(tokens)-2 {
			return content{}, api.ErrSyntax
		}
		if !between {
			c.operands = append(c.operands, t)
		}
	}
	return c, api.OK
}
