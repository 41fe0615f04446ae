package lexer_test

import (
	"fmt"
	"math/rand/v2"
	"slices"
	"strings"
	"testing"

	"replevin/api"
	"replevin/lexer"
)

// check compares what Scan returns with the result of the model.
func check(t *testing.T, s string) api.Errno {
	t.Helper()
	want, wantLine, wantColumn, wantE := scanned(s)
	l, line, column, e := lexer.Scan(s)
	if !slices.Equal(l, want) || line != wantLine || column != wantColumn || e != wantE {
		t.Fatalf("Scan(%q) = %v, %d, %d, %d; want %v, %d, %d, %d", s, l, line, column, e, want, wantLine, wantColumn, wantE)
	}
	return e
}

// P21.1: the examples of the chapter, and the places of tokens.
func TestScan(t *testing.T) {
	for s, want := range map[string][]lexer.Token{
		"":                 {{Line: 1, Column: 1}},
		"x = 0x1f; // end": {{Kind: 1, Text: "x", Line: 1, Column: 1}, {Kind: 5, Text: "=", Line: 1, Column: 3}, {Kind: 2, Text: "0x1f", Value: 31, Line: 1, Column: 5}, {Kind: 5, Text: ";", Line: 1, Column: 9}, {Line: 1, Column: 17}},
		"a<<=b":            {{Kind: 1, Text: "a", Line: 1, Column: 1}, {Kind: 5, Text: "<<", Line: 1, Column: 2}, {Kind: 5, Text: "=", Line: 1, Column: 4}, {Kind: 1, Text: "b", Line: 1, Column: 5}, {Line: 1, Column: 6}},
		"\n\n":             {{Line: 3, Column: 1}}, " \t ": {{Line: 1, Column: 4}}, "//": {{Line: 1, Column: 3}}, "//\n": {{Line: 2, Column: 1}}, "// a\n // b": {{Line: 2, Column: 6}},
		"//x\xff\x00\"'$\r\nif//\n\n\tb//": {{Kind: 4, Text: "if", Line: 2, Column: 1}, {Kind: 1, Text: "b", Line: 4, Column: 2}, {Line: 4, Column: 5}},
		"a/ /b///c":                        {{Kind: 1, Text: "a", Line: 1, Column: 1}, {Kind: 5, Text: "/", Line: 1, Column: 2}, {Kind: 5, Text: "/", Line: 1, Column: 4}, {Kind: 1, Text: "b", Line: 1, Column: 5}, {Line: 1, Column: 10}},
		"\"a//b\"'/'":                      {{Kind: 3, Text: "\"a//b\"", Bytes: "a//b", Line: 1, Column: 1}, {Kind: 2, Text: "'/'", Value: '/', Line: 1, Column: 7}, {Line: 1, Column: 10}},
	} {
		if l, line, column, e := lexer.Scan(s); !slices.Equal(l, want) || line != 0 || column != 0 || e != api.OK {
			t.Errorf("Scan(%q) = %v, %d, %d, %d; want %v", s, l, line, column, e, want)
		}
		check(t, s)
	}
}

// P21.1: texts that are a single token.
func TestSingleTokens(t *testing.T) {
	type token = lexer.Token
	most := strings.Repeat("x", 32)
	for _, want := range []token{
		{Kind: lexer.Ident, Text: "a"}, {Kind: lexer.Ident, Text: "_"}, {Kind: lexer.Ident, Text: "Zz_09"}, {Kind: lexer.Ident, Text: "x0f"}, {Kind: lexer.Ident, Text: "iffy"}, {Kind: lexer.Ident, Text: "While"}, {Kind: lexer.Ident, Text: most},
		{Kind: lexer.Number, Text: "0"}, {Kind: lexer.Number, Text: "7", Value: 7}, {Kind: lexer.Number, Text: "10", Value: 10}, {Kind: lexer.Number, Text: "4294967295", Value: 4294967295}, {Kind: lexer.Number, Text: "0x0"}, {Kind: lexer.Number, Text: "0x00000001", Value: 1}, {Kind: lexer.Number, Text: "0xffffffff", Value: 4294967295}, {Kind: lexer.Number, Text: "0x123456", Value: 0x123456}, {Kind: lexer.Number, Text: "0xabcdef", Value: 0xabcdef}, {Kind: lexer.Number, Text: "0x789", Value: 0x789},
		{Kind: lexer.Number, Text: "'a'", Value: 97}, {Kind: lexer.Number, Text: "' '", Value: 32}, {Kind: lexer.Number, Text: "'~'", Value: 126}, {Kind: lexer.Number, Text: "'\"'", Value: 34}, {Kind: lexer.Number, Text: `'\n'`, Value: 10}, {Kind: lexer.Number, Text: `'\t'`, Value: 9}, {Kind: lexer.Number, Text: `'\0'`, Value: 0}, {Kind: lexer.Number, Text: `'\\'`, Value: 92}, {Kind: lexer.Number, Text: `'\''`, Value: 39}, {Kind: lexer.Number, Text: `'\"'`, Value: 34}, {Kind: lexer.Number, Text: `'\x00'`}, {Kind: lexer.Number, Text: `'\x0a'`, Value: 10}, {Kind: lexer.Number, Text: `'\xff'`, Value: 255}, {Kind: lexer.Number, Text: `'\x27'`, Value: 39},
		{Kind: lexer.String, Text: `""`}, {Kind: lexer.String, Text: `" ~'"`, Bytes: " ~'"}, {Kind: lexer.String, Text: `"\n\t\0\\\'\"\x4fz"`, Bytes: "\n\t\x00\\'\"Oz"}, {Kind: lexer.String, Text: `"\\n"`, Bytes: "\\n"}, {Kind: lexer.String, Text: `"\x411\x22"`, Bytes: "A1\""}, {Kind: lexer.String, Text: `"\\"`, Bytes: "\\"}, {Kind: lexer.String, Text: `"\01"`, Bytes: "\x001"}, {Kind: lexer.String, Text: `"` + strings.Repeat("a", 200) + `"`, Bytes: strings.Repeat("a", 200)}, {Kind: lexer.String, Text: `"` + strings.Repeat(`\x80`, 200) + `"`, Bytes: strings.Repeat("\x80", 200)},
	} {
		checkSingle(t, want)
	}
	for _, s := range strings.Fields(keywordTexts) {
		checkSingle(t, lexer.Token{Kind: lexer.Keyword, Text: s})
	}
	for _, s := range strings.Fields(symbolTexts) {
		checkSingle(t, lexer.Token{Kind: lexer.Symbol, Text: s})
	}
}

func checkSingle(t *testing.T, want lexer.Token) {
	t.Helper()
	want.Line, want.Column = 1, 1
	if l, _, _, e := lexer.Scan(want.Text); e != api.OK || !slices.Equal(l, []lexer.Token{want, {Line: 1, Column: 1 + len(want.Text)}}) {
		t.Errorf("Scan(%q) = %v, %d", want.Text, l, e)
	}
	want.Line, want.Column = 3, 2
	if l, _, _, e := lexer.Scan("// \n\n\t" + want.Text + "\n;"); e != api.OK || len(l) != 3 || l[0] != want || l[1] != (lexer.Token{Kind: lexer.Symbol, Text: ";", Line: 4, Column: 1}) {
		t.Errorf("behind blanks, the tokens of %q are %v, %d", want.Text, l, e)
	}
}

// P21.1: the longest token follows.
func TestLongestTokens(t *testing.T) {
	for s, want := range map[string]string{
		"a<=b": "a <= b", "a<<b": "a << b", "a<<<b": "a << < b", "a<==b": "a <= = b", "a===b": "a == = b", "a====b": "a == == b", "!==": "!= =", "!!=": "! !=", "&&&": "&& &", "|||": "|| |", "&|": "& |", ">>=": ">> =", ">>>": ">> >", ">=>": ">= >", "^=": "^ =", "~=": "~ =", "<>": "< >", "--": "- -", "++": "+ +", "-1": "- 1", "1-2": "1 - 2", "ifx": "ifx", "if(": "if (", "x1y": "x1y", "a[0]": "a [ 0 ]", "1;a": "1 ; a", "0'a'": "0 'a'", "'a'b": "'a' b", "'a''b'": "'a' 'b'", "\"\"\"\"": "\"\" \"\"", "a\"b\"c": "a \"b\" c", "if_": "if_", "0)": "0 )", "*/": "* /",
	} {
		if l, _, _, e := lexer.Scan(s); e != api.OK || lexer.Print(l) != want {
			t.Errorf("the tokens of %q are %q, %d; want %q", s, lexer.Print(l), e, want)
		}
	}
}

// P21.1: the first error and its place.
func TestErrors(t *testing.T) {
	long := strings.Repeat("a", 33)
	tooMuch := `"` + strings.Repeat(`\n`, 201)
	for s, want := range map[string]string{
		// Bytes with which no token begins.
		"$": "1 1 6", "x $": "1 3 6", "\n\n  @": "3 3 6", "\r": "1 1 6", "a\r\n": "1 2 6", "\x00": "1 1 6", "\x7f": "1 1 6", "\xe4": "1 1 6", "ä": "1 1 6", "a.b": "1 2 6", "#": "1 1 6", "?": "1 1 6", ":": "1 1 6", "\\": "1 1 6", "`": "1 1 6", "\v": "1 1 6", "\f": "1 1 6", "// \n$": "2 1 6", "a // $\n\t\t$": "2 3 6", "aä": "1 2 6",
		// Words and numbers.
		long: "1 1 5", "  " + long + "$": "1 3 5", long + long: "1 1 5", "if" + long: "1 1 5", "_" + strings.Repeat("0", 32): "1 1 5",
		"01": "1 1 3", "00": "1 1 3", "0a": "1 1 3", "1a": "1 1 3", "1_000": "1 1 3", "0x": "1 1 3", "0xg": "1 1 3", "0x1g": "1 1 3", "0xA": "1 1 3", "0xaF": "1 1 3", "0X1": "1 1 3", "0x_1": "1 1 3", "0x123456789": "1 1 3", "0x000000000": "1 1 3", "0x0x0": "1 1 3", "10x1": "1 1 3", "0b1": "1 1 3", "1e3": "1 1 3", "9_": "1 1 3", "x 00": "1 3 3", "9999999999999a": "1 1 3", "0999999999999": "1 1 3", "1.5": "1 2 6",
		"4294967296": "1 1 2", "\n 4294967296": "2 2 2", "9999999999": "1 1 2", "18446744073709551616": "1 1 2", "18446744073709551617 ": "1 1 2", strings.Repeat("9", 5000): "1 1 2", "1" + strings.Repeat("0", 32): "1 1 2",
		// Characters.
		"''": "1 2 6", "'''": "1 2 6", "'ab'": "1 3 6", "'ab": "1 3 6", "'a\"": "1 3 6", "'a\n'": "1 3 6", "'\n'": "1 2 6", "'\t'": "1 2 6", "'\x7f'": "1 2 6", "'\xff'": "1 2 6", "'ä'": "1 2 6", "'\x1f": "1 2 6", "'a\xff": "1 3 6", "x\n 'ab'": "2 4 6",
		"'": "1 1 4", "'a": "1 1 4", " '": "1 2 4", "'\"": "1 1 4", `'\`: "1 1 4", `'\n`: "1 1 4", `'\'`: "1 1 4", `'\x`: "1 1 4", `'\x4`: "1 1 4", `'\x41`: "1 1 4", `'\\`: "1 1 4",
		`'\q'`: "1 3 6", `'\N'`: "1 3 6", `'\1'`: "1 3 6", "'\\\n'": "1 3 6", "'\\\x00'": "1 3 6", "'\\\xff'": "1 3 6", `'\a'`: "1 3 6", `'\X41'`: "1 3 6", `'\u0041'`: "1 3 6", `'\ `: "1 3 6", `'\x'`: "1 4 6", `'\xg`: "1 4 6", `'\xA1'`: "1 4 6", `'\x4'`: "1 5 6", `'\x4G'`: "1 5 6", `'\x1A'`: "1 5 6", `'\x411'`: "1 6 6", `'\nn'`: "1 4 6", `'\'a`: "1 4 6", "'\\x\n": "1 4 6", `'\x4"`: "1 5 6",
		// Strings.
		`"`: "1 1 4", `"a`: "1 1 4", ` "ab`: "1 2 4", `""" `: "1 3 4", `"\"`: "1 1 4", `"\`: "1 1 4", `"a\x`: "1 1 4", `"a\xa`: "1 1 4", `"\\\"`: "1 1 4", "\n\"//": "2 1 4",
		"\"a\nb\"": "1 3 6", "\"\t\"": "1 2 6", "\"\x7f": "1 2 6", "\"a\xffb\"": "1 3 6", "\"ä\"": "1 2 6", `"\q"`: "1 3 6", `"\x4z"`: "1 5 6", `"\x4"`: "1 5 6", `"\x"`: "1 4 6", `"ab\ c"`: "1 5 6", "\"ab\\\n\"": "1 5 6", `"\xAB"`: "1 4 6", `"\x aa"`: "1 4 6", "\"\\\x00\"": "1 3 6", `"abc\X"`: "1 6 6", "\"a\n": "1 3 6",
		tooMuch + `"`: "1 1 5", " " + tooMuch + `" $`: "1 2 5", tooMuch: "1 1 4", tooMuch + "\n\"": "1 404 6", tooMuch + `\q"`: "1 405 6",
		// The first one in the order of the program.
		"$ 01": "1 1 6", "01 $": "1 1 3", "a 'bc' \"": "1 5 6", "4294967296 $": "1 1 2", long + " 01": "1 1 5", "'\xff": "1 2 6",
	} {
		l, line, column, e := lexer.Scan(s)
		if is := fmt.Sprintf("%d %d %d", line, column, e); is != want || len(l) != 0 {
			t.Errorf("Scan(%q) = %v, %s; want %s", s, l, is, want)
		}
		check(t, s)
	}
}

// P21.1: every byte at every place of a token.
func TestAllBytes(t *testing.T) {
	for c := range 256 {
		for _, x := range [][2]string{{"", ""}, {"", "a"}, {"a", ""}, {"1", ""}, {"0x", ""}, {"0x1", "1"}, {"'", ""}, {"'", "'"}, {"'a", ""}, {`'\`, ""}, {`'\`, "'"}, {`'\x`, ""}, {`'\x`, "0'"}, {`'\x4`, ""}, {`'\x4`, "'"}, {`"`, ""}, {`"`, `"`}, {`"a`, `b"`}, {`"\`, ""}, {`"\`, `"`}, {`"\x`, `0"`}, {`"\x0`, `"`}, {"//", "\na"}, {"// ", ""}, {"<", ""}, {"=", "="}, {"&", ""}} {
			check(t, x[0]+string([]byte{byte(c)})+x[1])
		}
	}
}

// P21.1: all short programs of some bytes.
func TestShortPrograms(t *testing.T) {
	const bytes = "'\"\\x0a9/<=\n $ng"
	programs := []string{""}
	for range 4 {
		var longer []string
		for _, s := range programs {
			for i := range bytes {
				longer = append(longer, s+bytes[i:i+1])
			}
		}
		for _, s := range longer {
			check(t, s)
		}
		programs = longer
	}
}

// P21.1
func TestMaxSource(t *testing.T) {
	for s, want := range map[string]string{
		strings.Repeat(" ", 16384): "0 0 0", strings.Repeat(" ", 16385): "1 1 5", strings.Repeat("\n", 20000): "1 1 5", strings.Repeat("$", 16384): "1 1 6", strings.Repeat("$", 16385): "1 1 5", "\n" + strings.Repeat("a", 1<<20): "1 1 5", strings.Repeat("(", 16384): "1 4097 9", strings.Repeat("(", 16385): "1 1 5", "//" + strings.Repeat("x", 16382): "0 0 0", "//" + strings.Repeat("x", 16383): "1 1 5", strings.Repeat("a", 16384): "1 1 5", strings.Repeat("9", 16384): "1 1 2", "\"" + strings.Repeat("x", 16383): "1 1 4", strings.Repeat("\n", 16384): "0 0 0",
	} {
		l, line, column, e := lexer.Scan(s)
		if is := fmt.Sprintf("%d %d %d", line, column, e); is != want || (len(l) == 1) != (e == api.OK) {
			t.Errorf("Scan of %d bytes %q.. = %s, %d tokens; want %s", len(s), s[:2], is, len(l), want)
		}
		check(t, s)
	}
}

// P21.1: of tokens, MaxTokens are permitted without End; whatever follows has no errors of its own.
func TestMaxTokens(t *testing.T) {
	full := strings.Repeat("a\n", 4096)
	for s, want := range map[string]string{
		full: "0 0 0", full + " // $ a\n\t": "0 0 0", full[:8191]: "0 0 0", full[:8190]: "0 0 0", full[2:] + " ;": "0 0 0",
		full + "b": "4097 1 9", full + "  ;": "4097 3 9", full + "// x\n $": "4098 2 9", full + "$": "4097 1 9", full + "01": "4097 1 9", full + "'": "4097 1 9", full + "\"\n": "4097 1 9", full + "\xff": "4097 1 9", full + strings.Repeat("b", 33): "4097 1 9", full + "/": "4097 1 9", full + "a$": "4097 1 9",
		full[2:] + "$": "4096 1 6", full[2:] + "'a": "4096 1 4", full[2:] + "a $": "4096 3 9", full[2:] + "01 a": "4096 1 3", "$" + full + "a": "1 1 6", full[:4000] + "$" + full: "2001 1 6",
	} {
		l, line, column, e := lexer.Scan(s)
		if is := fmt.Sprintf("%d %d %d", line, column, e); is != want || e == api.OK && len(l) != lexer.MaxTokens+1 && s != full[:8190] || e != api.OK && len(l) != 0 {
			t.Errorf("Scan of .. %q = %s, %d tokens; want %s", s[max(0, len(s)-20):], is, len(l), want)
		}
		check(t, s)
	}
}

// P21.1
func TestRandomPrograms(t *testing.T) {
	random := rand.New(rand.NewPCG(2, 21))
	counts := map[api.Errno]int{}
	for range 30000 {
		var b strings.Builder
		for range random.IntN(12) {
			b.WriteString(someToken(random))
			b.WriteString(pick(random, "", "", " ", "\n", "\t ", "// \"a\xff\n", "//"))
		}
		s := b.String()
		if random.IntN(2) == 0 {
			at := random.IntN(len(s) + 1)
			s = s[:at] + pick(random, "$", "\"", "'", "\\", "0", "x", "\n", strings.Repeat("z", 33), "4294967296", someBytes(random, 1), `"`+strings.Repeat("y", 201)+`"`) + s[at+random.IntN(len(s)-at+1):]
		}
		counts[check(t, s)]++
	}
	for _, e := range []api.Errno{api.OK, api.ErrByte, api.ErrLong, api.ErrFormat, api.ErrRange, api.ErrShort} {
		if counts[e] < 100 {
			t.Errorf("the error %d occurs %d times", e, counts[e])
		}
	}
}

// P21.4 and P21.5: what is printed has the same tokens, and what stands between them changes places only.
func TestConsequences(t *testing.T) {
	random := rand.New(rand.NewPCG(3, 21))
	for range 5000 {
		var dense, wide strings.Builder
		texts := make([]string, random.IntN(20))
		for i := range texts {
			texts[i] = someToken(random)
			wide.WriteString(strings.Repeat(pick(random, " ", "\t", "\n", " // 'x\n"), 1+random.IntN(3)) + texts[i])
			dense.WriteString(texts[i] + " ")
		}
		wide.WriteString(pick(random, "", "\n", " // end"))
		a, _, _, e := lexer.Scan(dense.String())
		b, _, _, f := lexer.Scan(wide.String())
		printed := lexer.Print(b)
		c, _, _, g := lexer.Scan(printed)
		if e != api.OK || f != api.OK || g != api.OK || len(a) != len(texts)+1 || printed != strings.Join(texts, " ") {
			t.Fatalf("%q: %d, %d, %d, %d tokens, %q", texts, e, f, g, len(a)-1, printed)
		}
		if !lexer.Same(a, b) || !lexer.Same(b, c) {
			t.Fatalf("%q: %v, %v, %v", texts, a, b, c)
		}
		checkPlaces(t, wide.String(), b)
	}
}

// P21.1 and P21.4: with the spaces between its tokens, the text of a permitted program may have more bytes than a program may have.
func TestPrintOfLongProgram(t *testing.T) {
	full := strings.Repeat("abcdefg;", 2048)
	if check(t, full) != api.OK {
		t.Fatal("the program is not permitted")
	}
	l, _, _, _ := lexer.Scan(full)
	printed := lexer.Print(l)
	if want := strings.TrimSuffix(strings.Repeat("abcdefg ; ", 2048), " "); printed != want {
		t.Errorf("Print returns %d bytes; want %d", len(printed), len(want))
	}
	if e := check(t, printed); e != api.ErrLong {
		t.Error(e)
	}
}

// checkPlaces checks that tokens stand in a program where they say, one behind the other, and that the last one is its end.
func checkPlaces(t *testing.T, s string, l []lexer.Token) {
	t.Helper()
	lines := strings.Split(s, "\n")
	line, column := 1, 0
	for i, token := range l {
		if token.Line < line || token.Line == line && token.Column <= column {
			t.Fatalf("%q: the token %v does not follow %d, %d", s, token, line, column)
		}
		line, column = token.Line, token.Column
		if !strings.HasPrefix(lines[line-1][column-1:], token.Text) || (token.Kind == lexer.End) != (i == len(l)-1) {
			t.Fatalf("%q: the token %v", s, token)
		}
	}
	if line != len(lines) || column != len(lines[line-1])+1 {
		t.Fatalf("%q ends at %d, %d", s, line, column)
	}
}

// P21.5
func TestTokensAreNew(t *testing.T) {
	const s = "x = 1 + \"a\";"
	before, _, _, _ := lexer.Scan(s)
	for i := range before {
		before[i] = lexer.Token{}
	}
	if l, _, _, e := lexer.Scan(s); e != api.OK || lexer.Print(l) != "x = 1 + \"a\" ;" {
		t.Error(l, e)
	}
}
