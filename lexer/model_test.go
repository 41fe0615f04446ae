package lexer_test

import (
	"math/rand/v2"
	"regexp"
	"strconv"
	"strings"

	"replevin/api"
	"replevin/lexer"
)

const (
	keywordTexts = "func var while if else return break continue"
	symbolTexts  = "( ) { } [ ] , ; = == != < <= > >= + - * / % & | ^ << >> && || ! ~"
)

// What may stand between apostrophes and between quotation marks, and what an escape may begin with.
const (
	escapes    = `\\[nt0\\'"]|\\x[0-9a-f][0-9a-f]`
	characters = `(?:[ -&(-\[\]-~]|` + escapes + `)`
	units      = `(?:[ !#-\[\]-~]|` + escapes + `)*`
	begun      = `(?:\\(?:x[0-9a-f]?)?)?`
)

var (
	skipPattern      = regexp.MustCompile(`^(?:[ \t\n]|//[^\n]*)*`)
	wordPattern      = regexp.MustCompile(`^[A-Za-z_][A-Za-z0-9_]*`)
	digitsPattern    = regexp.MustCompile(`^[0-9][A-Za-z0-9_]*`)
	numberPattern    = regexp.MustCompile(`^(?:0|[1-9][0-9]*|0x[0-9a-f]{1,8})$`)
	characterPattern = regexp.MustCompile(`^'` + characters + `'`)
	stringPattern    = regexp.MustCompile(`^"` + units + `"`)
	characterBegun   = longest(`^'(?:` + characters + `|` + begun + `)`)
	stringBegun      = longest(`^"` + units + begun)
	escapePattern    = regexp.MustCompile(`\\(?:x..|.)`)
)

func longest(pattern string) *regexp.Regexp {
	p := regexp.MustCompile(pattern)
	p.Longest()
	return p
}

// place returns the line and the column of an offset.
func place(s string, at int) (line, column int) {
	before := s[:at]
	return 1 + strings.Count(before, "\n"), at - strings.LastIndex(before, "\n")
}

// scanned is what Scan returns, made in a plain way.
func scanned(s string) (l []lexer.Token, line, column int, e api.Errno) {
	if len(s) > 16384 {
		return nil, 1, 1, api.ErrLong
	}
	for at := 0; ; {
		at += len(skipPattern.FindString(s[at:]))
		line, column := place(s, at)
		if at == len(s) {
			return append(l, lexer.Token{Line: line, Column: column}), 0, 0, api.OK
		}
		if len(l) == 4096 {
			return nil, line, column, api.ErrLimit
		}
		t, offset, e := first(s[at:])
		if e != api.OK {
			line, column := place(s, at+offset)
			return nil, line, column, e
		}
		t.Line, t.Column = line, column
		l = append(l, t)
		at += len(t.Text)
	}
}

// first returns the token with which a text begins, or the offset of an error.
func first(s string) (t lexer.Token, offset int, e api.Errno) {
	if word := wordPattern.FindString(s); word != "" {
		return firstWord(word)
	}
	if word := digitsPattern.FindString(s); word != "" {
		return firstNumber(word)
	}
	switch s[0] {
	case '\'':
		text, offset, e := between(s, characterPattern, characterBegun)
		if e != api.OK {
			return t, offset, e
		}
		return lexer.Token{Kind: 2, Text: text, Value: int(denoted(text)[0])}, 0, api.OK
	case '"':
		text, offset, e := between(s, stringPattern, stringBegun)
		if e == api.OK && len(denoted(text)) > 200 {
			e = api.ErrLong
		}
		if e != api.OK {
			return t, offset, e
		}
		return lexer.Token{Kind: 3, Text: text, Bytes: denoted(text)}, 0, api.OK
	}
	return firstSymbol(s)
}

func firstWord(s string) (t lexer.Token, offset int, e api.Errno) {
	if len(s) > 32 {
		return t, 0, api.ErrLong
	}
	for _, keyword := range strings.Fields(keywordTexts) {
		if s == keyword {
			return lexer.Token{Kind: 4, Text: s}, 0, api.OK
		}
	}
	return lexer.Token{Kind: 1, Text: s}, 0, api.OK
}

func firstNumber(s string) (t lexer.Token, offset int, e api.Errno) {
	if !numberPattern.MatchString(s) {
		return t, 0, api.ErrFormat
	}
	n, err := strconv.ParseUint(s, 0, 64)
	if err != nil || n >= 1<<32 {
		return t, 0, api.ErrRange
	}
	return lexer.Token{Kind: 2, Text: s, Value: int(n)}, 0, api.OK
}

// between returns the token with which a text begins, or an error behind what such a token may begin with.
func between(s string, token, begun *regexp.Regexp) (text string, offset int, e api.Errno) {
	if text := token.FindString(s); text != "" {
		return text, 0, api.OK
	}
	if size := len(begun.FindString(s)); size < len(s) {
		return "", size, api.ErrByte
	}
	return "", 0, api.ErrShort
}

// denoted returns what a character or a string denotes.
func denoted(text string) string {
	return escapePattern.ReplaceAllStringFunc(text[1:len(text)-1], func(escape string) string {
		switch escape[1] {
		case 'n':
			return "\n"
		case 't':
			return "\t"
		case '0':
			return "\x00"
		case 'x':
			n, _ := strconv.ParseUint(escape[2:], 16, 8)
			return string([]byte{byte(n)})
		}
		return escape[1:]
	})
}

func firstSymbol(s string) (t lexer.Token, offset int, e api.Errno) {
	symbol := ""
	for _, other := range strings.Fields(symbolTexts) {
		if strings.HasPrefix(s, other) && len(other) > len(symbol) {
			symbol = other
		}
	}
	if symbol == "" {
		return t, 0, api.ErrByte
	}
	return lexer.Token{Kind: 5, Text: symbol}, 0, api.OK
}

func pick(random *rand.Rand, l ...string) string { return l[random.IntN(len(l))] }

func someBytes(random *rand.Rand, n int) string {
	b := make([]byte, n)
	for i := range b {
		b[i] = byte(random.IntN(256))
	}
	return string(b)
}

func someWord(random *rand.Rand, letters string, n int) string {
	b := make([]byte, n)
	for i := range b {
		b[i] = letters[random.IntN(len(letters))]
	}
	return string(b)
}

const (
	letters = "abcdefghijklmnopqrstuvwxyzABCDEFGHIJKLMNOPQRSTUVWXYZ_"
	digits  = "0123456789"
)

// someToken returns the text of a token.
func someToken(random *rand.Rand) string {
	switch random.IntN(8) {
	case 0:
		return someWord(random, letters, 1) + someWord(random, letters+digits, random.IntN(32))
	case 1:
		return pick(random, strings.Fields(keywordTexts)...)
	case 2:
		return strconv.Itoa(random.IntN(1 << random.IntN(33)))
	case 3:
		return "0x" + someWord(random, digits+"abcdef", 1+random.IntN(8))
	case 4:
		return "'" + someUnit(random, '\'') + "'"
	case 5:
		var b strings.Builder
		for range random.IntN(10) {
			b.WriteString(someUnit(random, '"'))
		}
		return `"` + b.String() + `"`
	}
	return pick(random, strings.Fields(symbolTexts)...)
}

// someUnit returns what denotes a byte in a character or a string.
func someUnit(random *rand.Rand, not byte) string {
	switch random.IntN(4) {
	case 0:
		return pick(random, `\n`, `\t`, `\0`, `\\`, `\'`, `\"`)
	case 1:
		return `\x` + someWord(random, digits+"abcdef", 2)
	}
	for {
		if c := byte(32 + random.IntN(95)); c != not && c != '\\' {
			return string([]byte{c})
		}
	}
}
