package asm

import (
	"maps"
	"slices"
	"strings"

	"replevin/api"
)

// assembler has what the lines up to one of them have made.
type assembler struct {
	program    Program
	data       []byte
	inData     bool // whether the line belongs to the data
	hadEntry   bool
	hadZero    bool
	places     map[string]Label
	statements map[string]statement
	line       int
	later      []func() (line int, e api.Errno) // what must wait until all labels have addresses
}

// Assemble returns the program of a text; on error it returns the number of the line, or 0 if the error concerns the whole program.
func Assemble(s string) (p Program, line int, e api.Errno) {
	if len(s) > MaxSource {
		return Program{}, 0, api.ErrLong
	}
	a := &assembler{places: map[string]Label{}}
	a.statements = a.allStatements()
	if line, e := a.readLines(s); e != api.OK {
		return Program{}, line, e
	}
	if line, e := a.useLabels(); e != api.OK {
		return Program{}, line, e
	}
	a.program.Data = string(a.data)
	a.program.Labels = slices.SortedFunc(maps.Values(a.places), compare)
	if e := a.program.Check(); e != api.OK {
		return Program{}, 0, e
	}
	return a.program, 0, api.OK
}

func (a *assembler) readLines(s string) (line int, e api.Errno) {
	for text := range strings.SplitSeq(s, "\n") {
		a.line++
		if e := a.readLine(text); e != api.OK {
			return a.line, e
		}
	}
	return 0, api.OK
}

func (a *assembler) readLine(text string) api.Errno {
	tokens, e := scan(text)
	if e != api.OK {
		return e
	}
	c, e := parse(tokens)
	if e != api.OK {
		return e
	}
	for _, name := range c.labels {
		if e := a.define(name); e != api.OK {
			return e
		}
	}
	if c.word == "" {
		return api.OK
	}
	run, is := a.statements[c.word]
	if !is {
		return api.ErrKind
	}
	return run(c.operands)
}

// useLabels is the second pass. What uses a label is in the order of the lines.
func (a *assembler) useLabels() (line int, e api.Errno) {
	for _, use := range a.later {
		if line, e := use(); e != api.OK {
			return line, e
		}
	}
	return 0, api.OK
}

func (a *assembler) define(name string) api.Errno {
	_, is := a.places[name]
	switch {
	case !IsLabel(name):
		return api.ErrName
	case is:
		return api.ErrDuplicate
	case len(a.places) == MaxLabels:
		return api.ErrLimit
	}
	place := Label{Name: name, Data: a.inData, Offset: a.program.codeSize()}
	if a.inData {
		place.Offset = len(a.data)
	}
	a.places[name] = place
	return api.OK
}

// value passes a number within limits to a function: at once if a word is a number, and later if it is the name of a label.
func (a *assembler) value(word string, low, high int, set func(n int)) api.Errno {
	if n, is := number(word); is {
		return setWithin(n, low, high, set)
	}
	if !IsLabel(word) {
		return api.ErrFormat
	}
	line := a.line
	a.later = append(a.later, func() (int, api.Errno) {
		place, is := a.places[word]
		if !is {
			return line, api.ErrUnknown
		}
		return line, setWithin(a.program.addressOf(place), low, high, set)
	})
	return api.OK
}

func setWithin(n, low, high int, set func(n int)) api.Errno {
	if n < low || n > high {
		return api.ErrRange
	}
	set(n)
	return api.OK
}

// checkSize returns an error if there are too many instructions or bytes of data.
func (a *assembler) checkSize() api.Errno {
	if a.program.codeSize() > MaxMemory || len(a.data) > MaxMemory {
		return api.ErrLimit
	}
	return api.OK
}
