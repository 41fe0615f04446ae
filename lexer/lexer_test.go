package lexer_test

import (
	"math/rand/v2"
	"slices"
	"strings"
	"testing"

	"replevin/lexer"
)

// The limits and kinds of the chapter.
func TestConstants(t *testing.T) {
	if lexer.MaxSource != 16384 || lexer.MaxTokens != 4096 || lexer.MaxIdent != 32 || lexer.MaxString != 200 {
		t.Error(lexer.MaxSource, lexer.MaxTokens, lexer.MaxIdent, lexer.MaxString)
	}
	if lexer.End != 0 || lexer.Ident != 1 || lexer.Number != 2 || lexer.String != 3 || lexer.Keyword != 4 || lexer.Symbol != 5 {
		t.Error(lexer.End, lexer.Ident, lexer.Number, lexer.String, lexer.Keyword, lexer.Symbol)
	}
}

// P21.2
func TestKeywordsAndSymbols(t *testing.T) {
	for _, x := range []struct {
		list func() []string
		all  string
	}{{lexer.Keywords, keywordTexts}, {lexer.Symbols, symbolTexts}} {
		want := strings.Fields(x.all)
		slices.Sort(want)
		l := x.list()
		if !slices.Equal(l, want) {
			t.Errorf("%q; want %q", l, want)
		}
		// The next call returns a list of its own.
		for i := range l {
			l[i] = "changed"
		}
		if l := x.list(); !slices.Equal(l, want) {
			t.Errorf("after a change of the list, %q; want %q", l, want)
		}
	}
	if l, _, _, e := lexer.Scan("if < changed"); e != 0 || l[0].Kind != lexer.Keyword || l[1].Kind != lexer.Symbol || l[2].Kind != lexer.Ident {
		t.Error(l, e)
	}
}

// P21.2
func TestIsIdent(t *testing.T) {
	most := strings.Repeat("a", 32)
	for _, s := range []string{"a", "z", "A", "Z", "_", "__", "a0", "a9", "_1", "aZ_09", "x0x", "iff", "i", "If", "IF", "func_", "_var", "breaks", "ifelse", most, most[:31]} {
		if !lexer.IsIdent(s) {
			t.Errorf("IsIdent(%q) = false", s)
		}
	}
	for _, s := range []string{"", "0", "9a", "0x1", " ", " a", "a ", "a b", "a\n", "a-b", "a.b", "a;", "+", "'a'", "\"a\"", "\x00", "a\x00", "ä", "aä", "\xff", "a\xff", "a//", "//", most + "a", strings.Repeat("a", 1<<20), most + " ", "@", "[", "`", "{", "a@", "a[", "a`", "a{", "a/", "a:"} {
		if lexer.IsIdent(s) {
			t.Errorf("IsIdent(%q) = true", s)
		}
	}
	for _, s := range strings.Fields(keywordTexts) {
		if lexer.IsIdent(s) || !lexer.IsIdent(s+"1") || !lexer.IsIdent(s[1:]) {
			t.Error(s)
		}
	}
	for c := range 256 {
		one, two := string([]byte{byte(c)}), string([]byte{'b', byte(c)})
		letter := strings.Contains(letters, one)
		if lexer.IsIdent(one) != letter || lexer.IsIdent(two) != (letter || strings.Contains(digits, one)) {
			t.Errorf("%q: %v, %v", one, lexer.IsIdent(one), lexer.IsIdent(two))
		}
	}
}

// P21.4
func TestPrint(t *testing.T) {
	for s, want := range map[string]string{
		"": "", " \n// x": "", "a+1": "a + 1", "\ta\n+\n 1 // b\n": "a + 1", "a<<=b": "a << = b", "/ /": "/ /", "if(x){}": "if ( x ) { }", "0x0f'\\n'\"a  b\"": "0x0f '\\n' \"a  b\"",
	} {
		l, _, _, _ := lexer.Scan(s)
		if p := lexer.Print(l); p != want {
			t.Errorf("Print of the tokens of %q is %q; want %q", s, p, want)
		}
	}
	// Any tokens have texts.
	for want, l := range map[string][]lexer.Token{"": nil, "x": {{Kind: 1, Text: "x"}}, "x y z": {{Kind: 1, Text: "x"}, {Text: "no"}, {Kind: 7, Text: "y"}, {Kind: -1, Text: "z"}, {}}, " ": {{Kind: 1}, {Kind: 5}}} {
		if p := lexer.Print(l); p != want {
			t.Errorf("Print(%v) = %q; want %q", l, p, want)
		}
	}
}

// P21.4
func TestSame(t *testing.T) {
	one := func() []lexer.Token {
		return []lexer.Token{{Kind: 1, Text: "x", Line: 1, Column: 1}, {Kind: 3, Text: `"a"`, Bytes: "a", Line: 1, Column: 3}, {Kind: 2, Text: "7", Value: 7, Line: 2, Column: 4}, {Line: 2, Column: 5}}
	}
	if !lexer.Same(one(), one()) || !lexer.Same(nil, []lexer.Token{}) || !lexer.Same(nil, nil) {
		t.Error("Same of equal lists is false")
	}
	for i, x := range []struct {
		want   bool
		change func(l []lexer.Token) []lexer.Token
	}{
		{true, func(l []lexer.Token) []lexer.Token { l[0].Line = 7; return l }}, {true, func(l []lexer.Token) []lexer.Token { l[1].Column = 7; return l }}, {true, func(l []lexer.Token) []lexer.Token { l[3] = lexer.Token{}; return l }},
		{false, func(l []lexer.Token) []lexer.Token { l[0].Kind = 4; return l }}, {false, func(l []lexer.Token) []lexer.Token { l[0].Text = "y"; return l }}, {false, func(l []lexer.Token) []lexer.Token { l[1].Bytes = "b"; return l }}, {false, func(l []lexer.Token) []lexer.Token { l[2].Value = 8; return l }}, {false, func(l []lexer.Token) []lexer.Token { l[2].Text = "0x7"; return l }},
		{false, func(l []lexer.Token) []lexer.Token { return l[:3] }}, {false, func(l []lexer.Token) []lexer.Token { return l[1:] }}, {false, func(l []lexer.Token) []lexer.Token { return nil }}, {false, func(l []lexer.Token) []lexer.Token { return append(l, lexer.Token{}) }}, {false, func(l []lexer.Token) []lexer.Token { l[0], l[1] = l[1], l[0]; return l }},
	} {
		changed := x.change(one())
		given := slices.Clone(changed)
		if lexer.Same(changed, one()) != x.want || lexer.Same(one(), changed) != x.want {
			t.Errorf("%d: Same = %v", i, !x.want)
		}
		if !slices.Equal(changed, given) {
			t.Errorf("%d: %v has become %v", i, given, changed)
		}
	}
}

// P21.3
func TestQuote(t *testing.T) {
	for s, want := range map[string]string{
		"": `""`, "a b~ '": `"a b~ '"`, "a\"\\\n\t\x00\x7f'": `"a\"\\\n\t\0\x7f'"`, "\x01\x08\x0b\r\x1f\x80\xff": `"\x01\x08\x0b\x0d\x1f\x80\xff"`, "\x001": `"\01"`, `\n`: `"\\n"`, "//": `"//"`, "ä": `"\xc3\xa4"`, "nt0x": `"nt0x"`,
	} {
		if q, e := lexer.Quote(s); q != want || e != 0 {
			t.Errorf("Quote(%q) = %s, %d; want %s", s, q, e, want)
		}
	}
	for n, want := range map[int]int{199: 0, 200: 0, 201: 5, 1 << 20: 5} {
		for _, c := range []string{"a", "\x00", "\xff"} {
			q, e := lexer.Quote(strings.Repeat(c, n))
			if int(e) != want || (q == "") != (want != 0) {
				t.Errorf("Quote of %d bytes = %q, %d; want the error %d", n, q, e, want)
			}
		}
	}
}

// P21.5
func TestQuoteIsScanned(t *testing.T) {
	random := rand.New(rand.NewPCG(1, 21))
	for i := range 3000 {
		s := someBytes(random, random.IntN(201))
		if i < 256 {
			s = string([]byte{byte(i)})
		}
		q, e := lexer.Quote(s)
		want := []lexer.Token{{Kind: lexer.String, Text: q, Bytes: s, Line: 1, Column: 1}, {Line: 1, Column: 1 + len(q)}}
		if l, _, _, failed := lexer.Scan(q); e != 0 || failed != 0 || !slices.Equal(l, want) {
			t.Fatalf("Quote(%q) = %s, %d; its tokens are %v, %d", s, q, e, l, failed)
		}
	}
}
