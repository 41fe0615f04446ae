package object

import (
	"strconv"
	"strings"

	"replevin/api"
	"replevin/codec"
	"replevin/lineage"
)

// kernel is how an owner is written that has the empty text.
const kernel = "0"

// String returns the text of a name, and Parse the name with a text.
func (n Name) String() string {
	if n.Check() != api.OK {
		return ""
	}
	u := kinds[n.Kind]
	text := u.word
	if u.owner {
		text += " " + ownerText(n.Owner)
	}
	if u.number {
		text += numberMark(u) + strconv.Itoa(n.Number)
	}
	if u.index {
		text += " " + strconv.Itoa(n.Index)
	}
	if u.text {
		text += " " + n.Text
	}
	return text
}

func Parse(s string) (Name, api.Errno) {
	n := readText(s)
	// What was read without checking it is right if it leads back to the same text.
	if n.Check() != api.OK || n.String() != s {
		return Name{}, api.ErrFormat
	}
	return n, api.OK
}

// Encode returns the encoding of a name, and Decode the name with an encoding.
func (n Name) Encode() (string, api.Errno) {
	if e := n.Check(); e != api.OK {
		return "", e
	}
	u := kinds[n.Kind]
	w := codec.NewWriter()
	w.Number(n.Kind)
	if u.owner {
		w.Text(string(n.Owner))
	}
	if u.number {
		w.Number(n.Number)
	}
	if u.index {
		w.Number(n.Index)
	}
	if u.text {
		w.Text(n.Text)
	}
	b, e := w.Bytes()
	return string(b), e
}

func Decode(s string) (Name, api.Errno) {
	r := codec.NewReader([]byte(s))
	n := Name{Kind: r.Number(NumKinds)}
	u := kinds[n.Kind]
	if u.owner {
		n.Owner = lineage.Name(r.Text(codec.MaxText))
	}
	if u.number {
		n.Number = r.Number(MaxNumber)
	}
	if u.index {
		n.Index = r.Number(u.mostIndex)
	}
	if u.text {
		n.Text = r.Text(api.MaxName)
	}
	if r.Close() != api.OK || n.Check() != api.OK {
		return Name{}, api.ErrFormat
	}
	return n, api.OK
}

// readText returns a name that has the given text, if any has.
func readText(s string) Name {
	word, rest, _ := strings.Cut(s, " ")
	n := Name{Kind: kindOf(word)}
	u := kinds[n.Kind]
	if u.owner {
		end := " "
		if u.number {
			end = numberMark(u)
		}
		var owner string
		owner, rest, _ = strings.Cut(rest, end)
		if owner != kernel {
			n.Owner = lineage.Name(owner)
		}
	}
	if u.number {
		n.Number, rest = readNumber(rest)
	}
	if u.index {
		n.Index, rest = readNumber(rest)
	}
	n.Text = rest
	return n
}

// readNumber returns the number up to the next space, and what follows it.
func readNumber(s string) (int, string) {
	digits, rest, _ := strings.Cut(s, " ")
	// What is not a number becomes one that has another text.
	number, _ := strconv.Atoi(digits)
	return number, rest
}

func kindOf(word string) int {
	for kind := 1; kind <= NumKinds; kind++ {
		if kinds[kind].word == word {
			return kind
		}
	}
	return 0
}

func ownerText(owner lineage.Name) string {
	if owner == "" {
		return kernel
	}
	return string(owner)
}

// numberMark returns what precedes a number: there is no space behind an owner.
func numberMark(u use) string {
	if u.owner {
		return "#"
	}
	return " "
}
