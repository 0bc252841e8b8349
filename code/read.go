package code

import (
	"dormouse/api"
	"dormouse/text"
)

func decodeLine(line string) (api.Instr, bool) {
	p := parts(line)
	if len(p) == 0 {
		return api.Instr{}, false
	}
	in := api.Instr{Op: opOf(p[0])}
	switch in.Op {
	case 0:
		return api.Instr{}, false
	case api.Choose:
		cases, ok := decodeCases(p[1:])
		in.Cases = cases
		return in, ok
	}
	f, ok := readFields(shapeOf(in.Op), p[1:])
	in.A, in.B, in.N = f.a, f.b, f.n
	return in, ok
}

// parts parts a line into its signs; digits that stand together are one part.
func parts(line string) []string {
	var l []string
	digits := false
	for _, c := range line {
		digit := c >= '0' && c <= '9'
		if digit && digits {
			l[len(l)-1] += string(c)
		} else {
			l = append(l, string(c))
		}
		digits = digit
	}
	return l
}

type fields struct{ a, b, n int }

// readFields reads the parts by a shape; each sign of the shape has a part of its own.
func readFields(shape string, p []string) (fields, bool) {
	if len(p) != len(shape) {
		return fields{}, false
	}
	var f fields
	ok := true
	for i, c := range shape {
		is := true
		switch c {
		case 'a':
			f.a, is = register(p[i])
		case 'b':
			f.b, is = register(p[i])
		case 'd':
			f.n, is = text.Number(p[i])
			is = is && len(p[i]) == 1
		default:
			f.n, is = text.Number(p[i])
		}
		ok = ok && is
	}
	if !ok {
		return fields{}, false
	}
	return f, true
}

func register(part string) (int, bool) {
	for _, c := range part {
		return text.Reg(c)
	}
	return 0, false
}

func decodeCases(p []string) ([]api.Case, bool) {
	var l []api.Case
	for len(p) > 0 {
		kind := caseOf(p[0])
		shape := caseShape(kind)
		if kind == 0 || len(p) <= len(shape) {
			return nil, false
		}
		f, ok := readFields(shape, p[1:1+len(shape)])
		p = p[1+len(shape):]
		if !ok || kind == api.CaseElse && len(p) > 0 {
			return nil, false
		}
		l = append(l, api.Case{Kind: kind, Ch: f.a, Reg: f.b, To: f.n})
	}
	return l, len(l) > 0
}

func caseOf(sign string) int {
	switch sign {
	case "s":
		return api.CaseSend
	case "r":
		return api.CaseTake
	case "e":
		return api.CaseElse
	}
	return 0
}

func caseShape(kind int) string {
	if kind == api.CaseElse {
		return "n"
	}
	return "abn"
}
