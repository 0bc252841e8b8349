package text

import (
	"slices"
	"strings"
	"testing"

	"dormouse/api"
)

func TestLinesOrdinary(t *testing.T) {
	for _, c := range []struct {
		s    string
		want []string
	}{
		{"x\n x", []string{"x", "x"}},
		{"x", []string{"x"}},
		{"\n\na b\n \nc\n", []string{"ab", "c"}},
		{" ! ~ ", []string{"!~"}},
	} {
		got, e := Lines(c.s)
		if e != api.OK || !slices.Equal(got, c.want) {
			t.Errorf("P1.1: Lines(%q) = %q, %d; want %q", c.s, got, e, c.want)
		}
	}
}

func TestLinesRefuses(t *testing.T) {
	big := strings.Repeat("a", api.MaxText)
	for name, c := range map[string]struct {
		s    string
		want api.Errno
	}{
		"nothing":                {"", api.ErrEmpty},
		"blanks":                 {" \n  \n", api.ErrEmpty},
		"a tab":                  {"a\tb", api.ErrSign},
		"below the blank":        {"\x1f", api.ErrSign},
		"above the last sign":    {"\x7f", api.ErrSign},
		"no character":           {"a\xff", api.ErrSign},
		"a far sign":             {"é", api.ErrSign},
		"too many":               {big + "a", api.ErrBig},
		"too many wrong ones":    {strings.Repeat("\t", api.MaxText+1), api.ErrBig},
		"too many blanks":        {strings.Repeat(" ", api.MaxText+1), api.ErrBig},
		"just as many wide ones": {strings.Repeat("é", api.MaxText), api.ErrSign},
		"too many lines":         {strings.Repeat("x\n", api.MaxLines+1), api.ErrBig},
	} {
		if got, e := Lines(c.s); e != c.want || len(got) != 0 {
			t.Errorf("P1.1: Lines of %s: %q, %d; want nothing, %d", name, got, e, c.want)
		}
	}
}

func TestLinesAtTheEdges(t *testing.T) {
	if got, e := Lines(strings.Repeat("a", api.MaxText)); e != api.OK || len(got) != 1 {
		t.Errorf("P1.1: MaxText signs: %d lines, %d", len(got), e)
	}
	if got, e := Lines(strings.Repeat("x\n\n", api.MaxLines)); e != api.OK || len(got) != api.MaxLines {
		t.Errorf("P1.1: MaxLines lines: %d lines, %d", len(got), e)
	}
	first, _ := Lines(" a\n\n b c\n")
	again, e := Lines(strings.Join(first, "\n"))
	if e != api.OK || !slices.Equal(first, again) {
		t.Errorf("lines, joined by 10, are lines again: %q, %d", again, e)
	}
}

func TestNumber(t *testing.T) {
	for s, want := range map[string]int{"0": 0, "9": 9, "0042": 42, "9999": 9999, "0000": 0} {
		if got, ok := Number(s); got != want || !ok {
			t.Errorf("P1.1: Number(%q) = %d, %v", s, got, ok)
		}
	}
	for _, s := range []string{"", "10000", "00000", "-1", "+1", "1 ", "a", "1a", "१", "\xff"} {
		if got, ok := Number(s); got != 0 || ok {
			t.Errorf("P1.1: Number(%q) = %d, %v; want none", s, got, ok)
		}
	}
}

func TestRegAndName(t *testing.T) {
	for reg := range api.Regs {
		c, ok := Name(reg)
		back, is := Reg(c)
		if c != rune("abcdef"[reg]) || !ok || back != reg || !is {
			t.Errorf("P1.1: register %d: %q, %v, and back %d, %v", reg, c, ok, back, is)
		}
	}
	for _, c := range []rune{'a' - 1, 'f' + 1, 'A', '0', 0, -1, 1 << 30} {
		if reg, ok := Reg(c); reg != 0 || ok {
			t.Errorf("P1.1: Reg(%d) = %d, %v; want none", c, reg, ok)
		}
	}
	for _, reg := range []int{-1, api.Regs, 1 << 62, -1 << 63} {
		if c, ok := Name(reg); c != 0 || ok {
			t.Errorf("P1.1: Name(%d) = %d, %v; want none", reg, c, ok)
		}
	}
}
