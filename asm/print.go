package asm

import (
	"slices"
	"strconv"
	"strings"

	"replevin/api"
	"replevin/instr"
)

// partSize is how many bytes of the data a line has at most.
const partSize = 32

// Line returns the text of an instruction, and Print the canonical text of a program.
func Line(i instr.Instr) (string, api.Errno) {
	if e := i.Check(); e != api.OK {
		return "", e
	}
	form, _ := instr.Form(i.Op)
	line, before := instr.Word(i.Op), " "
	for _, field := range fields[form] {
		line += before + operandText(i, field)
		before = ", "
	}
	return line, api.OK
}

func operandText(i instr.Instr, field rune) string {
	switch field {
	case 'A':
		return "r" + strconv.Itoa(i.A)
	case 'B':
		return "r" + strconv.Itoa(i.B)
	case 'C':
		return "r" + strconv.Itoa(i.C)
	}
	return strconv.Itoa(i.C)
}

func Print(p Program) (string, api.Errno) {
	if e := p.Check(); e != api.OK {
		return "", e
	}
	if slices.ContainsFunc(p.Labels, func(l Label) bool { return l.Data && l.Offset > len(p.Data) }) {
		return "", api.ErrRefused
	}
	w := &printer{labels: p.Labels}
	w.line(".entry ", strconv.Itoa(p.Entry))
	if p.Zero != 0 {
		w.line(".zero ", strconv.Itoa(p.Zero))
	}
	w.code(p.Code)
	if p.Data != "" || len(w.labels) > 0 {
		w.line(".data")
		w.data(p.Data)
	}
	return w.text.String(), api.OK
}

// printer writes the text of a program. It has the labels that were not written, in the order of the program.
type printer struct {
	text   strings.Builder
	labels []Label
}

func (w *printer) line(parts ...string) {
	for _, part := range parts {
		w.text.WriteString(part)
	}
	w.text.WriteByte('\n')
}

func (w *printer) code(l []instr.Instr) {
	for at, i := range l {
		w.labelsAt(false, instr.Size*at)
		line, _ := Line(i)
		w.line("\t", line)
	}
	w.labelsAt(false, instr.Size*len(l))
}

func (w *printer) data(s string) {
	for at := 0; at < len(s); {
		w.labelsAt(true, at)
		end := min(at+partSize, len(s))
		if len(w.labels) > 0 {
			end = min(end, w.labels[0].Offset)
		}
		w.line("\t.text ", Quote(s[at:end]))
		at = end
	}
	w.labelsAt(true, len(s))
}

// labelsAt writes the labels of a place.
func (w *printer) labelsAt(data bool, offset int) {
	for len(w.labels) > 0 && w.labels[0].Data == data && w.labels[0].Offset == offset {
		w.line(w.labels[0].Name, ":")
		w.labels = w.labels[1:]
	}
}
