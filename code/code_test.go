package code

import (
	"reflect"
	"strings"
	"testing"

	"dormouse/api"
)

// every has a line of each kind, as Write writes it, and what it says.
func every() ([]string, []api.Instr) {
	lines := []string{"=a5", "<ab", "+cd", "me3", "sab", "rfa", "ca", "lab", "kab", "g7", "j0", "za12", "of", "ta1000", "bab", "uab", "wab", "p3a", "qa3", "fa9", "Ssab1rcd2e3", "x"}
	l := []api.Instr{
		{Op: api.Set, A: 0, N: 5}, {Op: api.Move, A: 0, B: 1}, {Op: api.Add, A: 2, B: 3}, {Op: api.Make, A: 4, N: 3},
		{Op: api.Send, A: 0, B: 1}, {Op: api.Take, A: 5, B: 0}, {Op: api.Shut}, {Op: api.Len, B: 1}, {Op: api.Cap, B: 1},
		{Op: api.Go, N: 7}, {Op: api.Jump}, {Op: api.Zero, N: 12}, {Op: api.Out, A: 5}, {Op: api.After, N: 1000},
		{Op: api.Box, B: 1}, {Op: api.Load, B: 1}, {Op: api.Store, B: 1}, {Op: api.Put, N: 3}, {Op: api.Get, N: 3}, {Op: api.Final, N: 9},
		{Op: api.Choose, Cases: []api.Case{{Kind: api.CaseSend, Ch: 0, Reg: 1, To: 1}, {Kind: api.CaseTake, Ch: 2, Reg: 3, To: 2}, {Kind: api.CaseElse, To: 3}}},
		{Op: api.Exit},
	}
	return lines, l
}

func TestDecodeEvery(t *testing.T) {
	lines, want := every()
	for i, line := range lines {
		got, n, e := Decode(line)
		if e != api.OK || n != 0 || len(got) != 1 || !reflect.DeepEqual(got[0], want[i]) {
			t.Errorf("P2.1: Decode(%q) = %+v, %d, %d; want %+v", line, got, n, e, want[i])
		}
	}
	got, n, e := Decode(strings.Join(lines, "\n\n "))
	if e != api.OK || n != 0 || !reflect.DeepEqual(got, want) {
		t.Errorf("P2.1: Decode of all: %+v, %d, %d", got, n, e)
	}
}

func TestDecodeLoosely(t *testing.T) {
	for line, want := range map[string]api.Instr{
		"= a 0005":  {Op: api.Set, N: 5},
		"qa9999":    {Op: api.Get, N: 9999},
		"p9f":       {Op: api.Put, A: 5, N: 9},
		"Se0000":    {Op: api.Choose, Cases: []api.Case{{Kind: api.CaseElse}}},
		"S s a b 7": {Op: api.Choose, Cases: []api.Case{{Kind: api.CaseSend, Reg: 1, To: 7}}},
	} {
		got, n, e := Decode(line)
		if e != api.OK || n != 0 || len(got) != 1 || !reflect.DeepEqual(got[0], want) {
			t.Errorf("P2.1: Decode(%q) = %+v, %d, %d; want %+v", line, got, n, e, want)
		}
	}
}

func TestDecodeRefuses(t *testing.T) {
	for _, line := range []string{
		"y", "X", "s", "=a", "=5", "=5a", "=a12345", "=g1", "=a-1", "=a5a", "<a", "<ag", "<abc", "<ab1", "sa1", "c", "ca1", "cab", "g", "ga", "g1a", "j12345", "za",
		"o1", "oab", "p12a", "pa1", "p1", "p1ab", "pga", "q1a", "x1", "xa", "xx", "0", "12",
		"S", "Ssab", "Ssa1", "Ssabc1", "Ssab12345", "Srab1x", "Se", "Sea", "Se1e2", "Se1sab2", "Sqab1", "S1", "Ssag1", "Se12345", "Se1a",
	} {
		got, n, e := Decode("x\n\nx\n" + line + "\n+\nx")
		if e != api.ErrOp || n != 3 || len(got) != 0 {
			t.Errorf("P2.1: Decode with the line %q: %+v, %d, %d; want nothing, 3, ErrOp", line, got, n, e)
		}
	}
	for s, want := range map[string]api.Errno{"": api.ErrEmpty, "x\ty": api.ErrSign, strings.Repeat("y\n", 61): api.ErrBig} {
		if got, n, e := Decode(s); len(got) != 0 || n != 0 || e != want {
			t.Errorf("P2.1: Decode(%q): %+v, %d, %d; want %d", s, got, n, e, want)
		}
	}
}

func TestWrite(t *testing.T) {
	lines, l := every()
	s, e := Write(l)
	if want := strings.Join(lines, "\n") + "\n"; e != api.OK || s != want {
		t.Errorf("P2.1: Write = %q, %d; want %q", s, e, want)
	}
	if s, e := Write(nil); s != "" || e != api.ErrEmpty {
		t.Errorf("P2.1: Write of none: %q, %d", s, e)
	}
	back, _, _ := Decode(s)
	if again, e := Write(back); e != api.OK || again != s {
		t.Errorf("what is written is decoded: %q, %d", again, e)
	}
}

func TestWriteRefuses(t *testing.T) {
	for name, in := range map[string]api.Instr{
		"no op":                   {},
		"an op below":             {Op: -1},
		"an op beyond":            {Op: 23},
		"no register":             {Op: api.Out, A: 6},
		"a register below":        {Op: api.Move, B: -1},
		"a great number":          {Op: api.Set, N: 10000},
		"a number below":          {Op: api.Set, N: -1},
		"two digits":              {Op: api.Put, N: 10},
		"a field too many":        {Op: api.Exit, A: 1},
		"a second register":       {Op: api.Set, B: 1},
		"a number too many":       {Op: api.Move, N: 1},
		"cases too many":          {Op: api.Exit, Cases: []api.Case{{Kind: api.CaseElse}}},
		"no cases":                {Op: api.Choose},
		"a case of no kind":       {Op: api.Choose, Cases: []api.Case{{Kind: 4}}},
		"an else ahead":           {Op: api.Choose, Cases: []api.Case{{Kind: api.CaseElse}, {Kind: api.CaseTake}}},
		"an else with a register": {Op: api.Choose, Cases: []api.Case{{Kind: api.CaseElse, Reg: 1}}},
		"a choice of a register":  {Op: api.Choose, A: 1, Cases: []api.Case{{Kind: api.CaseElse}}},
		"a far case":              {Op: api.Choose, Cases: []api.Case{{Kind: api.CaseSend, To: 10000}}},
	} {
		if s, e := Write([]api.Instr{{Op: api.Exit}, in}); s != "" || e != api.ErrOp {
			t.Errorf("P2.1: Write with %s: %q, %d; want nothing, ErrOp", name, s, e)
		}
	}
	if s, e := Write(make([]api.Instr, 61)); s != "" || e != api.ErrOp {
		t.Errorf("P2.1: Write of no instructions: %q, %d", s, e)
	}
	many := []api.Instr{}
	for range api.MaxLines + 1 {
		many = append(many, api.Instr{Op: api.Exit})
	}
	if s, e := Write(many); s != "" || e != api.ErrOp {
		t.Errorf("P2.1: Write of too many: %q, %d", s, e)
	}
	if _, e := Write(many[1:]); e != api.OK {
		t.Errorf("P2.1: Write of MaxLines: %d", e)
	}
}
