package code

import (
	"strconv"
	"strings"

	"dormouse/api"
	"dormouse/text"
)

func writeLine(in api.Instr) (string, bool) {
	sign := signOf(in.Op)
	if sign == "" {
		return "", false
	}
	if in.Op == api.Choose {
		cases, ok := writeCases(in.Cases)
		return sign + cases, ok
	}
	rest, ok := writeFields(shapeOf(in.Op), fields{in.A, in.B, in.N})
	return sign + rest, ok
}

func writeFields(shape string, f fields) (string, bool) {
	var b strings.Builder
	for _, c := range shape {
		switch c {
		case 'a', 'b':
			reg := f.a
			if c == 'b' {
				reg = f.b
			}
			name, ok := text.Name(reg)
			if !ok {
				return "", false
			}
			b.WriteRune(name)
		default:
			b.WriteString(strconv.Itoa(f.n))
		}
	}
	return b.String(), true
}

func writeCases(l []api.Case) (string, bool) {
	var b strings.Builder
	for _, c := range l {
		sign := caseSign(c.Kind)
		rest, ok := writeFields(caseShape(c.Kind), fields{c.Ch, c.Reg, c.To})
		if sign == "" || !ok {
			return "", false
		}
		b.WriteString(sign + rest)
	}
	return b.String(), true
}

func caseSign(kind int) string {
	switch kind {
	case api.CaseSend:
		return "s"
	case api.CaseTake:
		return "r"
	case api.CaseElse:
		return "e"
	}
	return ""
}
