// Package text is layer 1: a text is parted into lines of signs, and small signs are read.
package text

import (
	"strings"

	"dormouse/api"
)

const (
	lineEnd   = '\n'
	blank     = ' '
	lastSign  = '~'
	maxDigits = 4
)

// Lines parts s into its lines, without blanks, and without lines of nothing.
func Lines(s string) ([]string, api.Errno) {
	if e := checkSigns(s); e != api.OK {
		return nil, e
	}
	lines := parted(s)
	if len(lines) == 0 {
		return nil, api.ErrEmpty
	}
	if len(lines) > api.MaxLines {
		return nil, api.ErrBig
	}
	return lines, api.OK
}

// checkSigns counts all signs ahead of judging any: too many of them is told even where one of them may not be.
func checkSigns(s string) api.Errno {
	count, wrong := 0, 0
	for _, c := range s {
		count++
		if c != lineEnd && (c < blank || c > lastSign) {
			wrong++
		}
	}
	if count > api.MaxText {
		return api.ErrBig
	}
	if wrong > 0 {
		return api.ErrSign
	}
	return api.OK
}

func parted(s string) []string {
	var lines []string
	var line strings.Builder
	for _, c := range s {
		switch c {
		case lineEnd:
			lines = withLine(lines, line.String())
			line.Reset()
		case blank:
		default:
			line.WriteRune(c)
		}
	}
	return withLine(lines, line.String())
}

func withLine(lines []string, line string) []string {
	if line == "" {
		return lines
	}
	return append(lines, line)
}

// Number reads a number of one to four digits.
func Number(s string) (int, bool) {
	if s == "" || len(s) > maxDigits {
		return 0, false
	}
	n := 0
	for _, c := range s {
		if c < '0' || c > '9' {
			return 0, false
		}
		n = 10*n + int(c-'0')
	}
	return n, true
}

// Reg tells which register is named by c.
func Reg(c rune) (int, bool) {
	if c < 'a' || c >= 'a'+api.Regs {
		return 0, false
	}
	return int(c - 'a'), true
}

// Name tells the sign of a register.
func Name(reg int) (rune, bool) {
	if reg < 0 || reg >= api.Regs {
		return 0, false
	}
	return 'a' + rune(reg), true
}
