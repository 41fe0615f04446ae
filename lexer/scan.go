package lexer

import (
	"strings"

	"replevin/api"
)

// scanner has the rest of a program, and the place where it begins.
type scanner struct {
	rest         string
	line, column int
	kinds        []kind
}

// kind finds out what a text that is not empty begins with; it is false if this is no token of the kind, and no attempt at one.
type kind func(rest string) (finding, bool)

// finding is a token that has no place yet, or an error and its offset from the beginning of the token.
type finding struct {
	token  Token
	offset int
	e      api.Errno
}

// Scan returns the tokens of a program, the last of which is End; on error it returns where the error is.
func Scan(s string) (l []Token, line, column int, e api.Errno) {
	if len(s) > MaxSource {
		return nil, 1, 1, api.ErrLong
	}
	c := &scanner{rest: s, line: 1, column: 1, kinds: []kind{word, number, character, text, symbol}}
	for c.skip(); c.rest != ""; c.skip() {
		if len(l) == MaxTokens {
			return nil, c.line, c.column, api.ErrLimit
		}
		found := c.find()
		if found.e != api.OK {
			// No token goes on behind the end of its line, so the error is in the same line.
			return nil, c.line, c.column + found.offset, found.e
		}
		l = append(l, found.token.at(c.line, c.column))
		c.pass(len(found.token.Text))
	}
	return append(l, Token{}.at(c.line, c.column)), 0, 0, api.OK
}

// skip passes blanks and comments.
func (c *scanner) skip() {
	for c.rest != "" {
		switch {
		case isBlank(c.rest[0]):
			c.pass(1)
		case strings.HasPrefix(c.rest, "//"):
			comment, _, _ := strings.Cut(c.rest, "\n")
			c.pass(len(comment))
		default:
			return
		}
	}
}

func (c *scanner) pass(size int) {
	for i := range size {
		c.column++
		if c.rest[i] == '\n' {
			c.line, c.column = c.line+1, 1
		}
	}
	c.rest = c.rest[size:]
}

func (c *scanner) find() finding {
	for _, look := range c.kinds {
		if found, applies := look(c.rest); applies {
			return found
		}
	}
	return finding{e: api.ErrByte}
}
