package check

import (
	"errors"
	"strings"
	"testing"

	"dormouse/api"
	"dormouse/code"
)

func exit() api.Instr { return api.Instr{Op: api.Exit} }

func choose(l ...api.Case) api.Instr { return api.Instr{Op: api.Choose, Cases: l} }

func TestValidAllows(t *testing.T) {
	for _, s := range []string{
		"x", "j0", "=f9999", "<ab", "+ff", "ma0", "ma3", "sab", "rab", "ca", "lab", "kab", "g0", "za0", "oa", "ta0", "ta1000",
		"bab", "uab", "wab", "p0a", "p3a", "qa3", "fa0", "fa9", "Ssab0", "Srab0sab0e0", "Srab0sab0sab0", "Se0",
	} {
		l, _, _ := code.Decode(s)
		if n, e := Valid(l); n != 0 || e != api.OK || len(l) != 1 {
			t.Errorf("P3.1: Valid of %q: %d, %d", s, n, e)
		}
	}
}

func TestValidRefuses(t *testing.T) {
	send, other := api.Case{Kind: api.CaseSend}, api.Case{Kind: api.CaseElse}
	for name, c := range map[string]struct {
		in   api.Instr
		want api.Errno
	}{
		"no op":                     {api.Instr{}, api.ErrOp},
		"an op beyond":              {api.Instr{Op: 23}, api.ErrOp},
		"an op below":               {api.Instr{Op: -1}, api.ErrOp},
		"no register":               {api.Instr{Op: api.Out, A: 6}, api.ErrOp},
		"no second register":        {api.Instr{Op: api.Move, B: -1}, api.ErrOp},
		"a register too many":       {api.Instr{Op: api.Exit, A: 1}, api.ErrOp},
		"a second one too many":     {api.Instr{Op: api.Out, B: 1}, api.ErrOp},
		"a number too many":         {api.Instr{Op: api.Move, N: 1}, api.ErrOp},
		"a number below":            {api.Instr{Op: api.Set, N: -1}, api.ErrOp},
		"a great number":            {api.Instr{Op: api.Set, N: 10_000}, api.ErrOp},
		"a huge number":             {api.Instr{Op: api.Set, N: 1 << 62}, api.ErrOp},
		"a great channel":           {api.Instr{Op: api.Make, N: 4}, api.ErrOp},
		"a long wait":               {api.Instr{Op: api.After, N: 1001}, api.ErrOp},
		"a far finaliser":           {api.Instr{Op: api.Final, N: 10}, api.ErrOp},
		"a far global":              {api.Instr{Op: api.Put, N: 4}, api.ErrOp},
		"a far global to get":       {api.Instr{Op: api.Get, N: 4}, api.ErrOp},
		"a global below":            {api.Instr{Op: api.Get, N: -1}, api.ErrOp},
		"cases of none":             {api.Instr{Op: api.Exit, Cases: []api.Case{other}}, api.ErrOp},
		"no cases":                  {choose(), api.ErrOp},
		"too many cases":            {choose(send, send, send, other), api.ErrOp},
		"an else ahead":             {choose(other, send), api.ErrOp},
		"two elses":                 {choose(other, other), api.ErrOp},
		"an else with a channel":    {choose(api.Case{Kind: api.CaseElse, Ch: 1}), api.ErrOp},
		"an else with a register":   {choose(api.Case{Kind: api.CaseElse, Reg: 1}), api.ErrOp},
		"a case of no kind":         {choose(api.Case{Kind: 4}), api.ErrOp},
		"a case of no channel":      {choose(api.Case{Kind: api.CaseTake, Ch: 6}), api.ErrOp},
		"a case of no register":     {choose(api.Case{Kind: api.CaseTake, Reg: -1}), api.ErrOp},
		"a case that leads back":    {choose(api.Case{Kind: api.CaseTake, To: -1}), api.ErrOp},
		"a case that leads too far": {choose(send, api.Case{Kind: api.CaseTake, To: 10_000}), api.ErrOp},
		"a choice with a number":    {api.Instr{Op: api.Choose, N: 1, Cases: []api.Case{send}}, api.ErrOp},
		"a jump back":               {api.Instr{Op: api.Jump, N: -1}, api.ErrOp},
		"a jump too far":            {api.Instr{Op: api.Jump, N: 10_000}, api.ErrOp},
		"a jump behind the end":     {api.Instr{Op: api.Jump, N: 3}, api.ErrTarget},
		"a go behind the end":       {api.Instr{Op: api.Go, N: 9_999}, api.ErrTarget},
		"a zero behind the end":     {api.Instr{Op: api.Zero, N: 3}, api.ErrTarget},
		"a case behind the end":     {choose(send, api.Case{Kind: api.CaseTake, To: 3}), api.ErrTarget},
		"an else behind the end":    {choose(send, api.Case{Kind: api.CaseElse, To: 3}), api.ErrTarget},
		"wrong in two ways":         {choose(api.Case{Kind: api.CaseSend, To: 3}, api.Case{Kind: 7}), api.ErrOp},
	} {
		if n, e := Valid([]api.Instr{exit(), c.in, {Op: 99}}); n != 2 || e != c.want {
			t.Errorf("P3.1: Valid of %s: %d, %d; want 2, %d", name, n, e, c.want)
		}
	}
	if n, e := Valid([]api.Instr{{Op: api.Jump, N: 1}, {}}); n != 1+1 || e != api.ErrOp {
		t.Errorf("P3.1: Valid of the second one: %d, %d", n, e)
	}
}

func TestValidCounts(t *testing.T) {
	if n, e := Valid(nil); n != 0 || e != api.ErrEmpty {
		t.Errorf("P3.1: Valid of none: %d, %d", n, e)
	}
	if n, e := Valid(make([]api.Instr, api.MaxLines+1)); n != 0 || e != api.ErrBig {
		t.Errorf("P3.1: Valid of too many: %d, %d", n, e)
	}
	if n, e := Valid(make([]api.Instr, api.MaxLines)); n != 1 || e != api.ErrOp {
		t.Errorf("P3.1: Valid of many that are none: %d, %d", n, e)
	}
}

func TestLoad(t *testing.T) {
	if l, n, e := Load("j0"); len(l) != 1 || n != 0 || e != api.OK {
		t.Errorf("P3.1: Load of a jump: %v, %d, %d", l, n, e)
	}
	for s, want := range map[string]fault{
		"":                        {0, api.ErrEmpty},
		"x\t":                     {0, api.ErrSign},
		strings.Repeat("x\n", 61): {0, api.ErrBig},
		"x\ny\nx":                 {2, api.ErrOp},
		"x\nx\nj3":                {3, api.ErrTarget},
		"j9\ny":                   {2, api.ErrOp},
		"ma4":                     {1, api.ErrOp},
	} {
		if l, n, e := Load(s); len(l) != 0 || n != want.number || e != want.why {
			t.Errorf("P3.1: Load(%q): %v, %d, %d; want nothing, %d, %d", s, l, n, e, want.number, want.why)
		}
	}
}

func TestToldOfOthers(t *testing.T) {
	if n, e := told(errors.New("another one")); n != 0 || e != api.OK {
		t.Errorf("told of an error that is no fault: %d, %d", n, e)
	}
}
