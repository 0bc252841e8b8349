package choose

import (
	"slices"
	"testing"

	"dormouse/api"
	"dormouse/heap"
	"dormouse/value"
	"dormouse/view"
)

// made lays a goroutine whose registers are: a full channel, an empty one, a closed one, no channel, a box, a number.
func made(t *testing.T) (*heap.Heap, api.Gor) {
	t.Helper()
	h, e := heap.New(8)
	if e != api.OK {
		t.Fatal(e)
	}
	none := api.Chan{Cap: 1, TakeHead: -1, TakeTail: -1, SendHead: -1, SendTail: -1}
	var g api.Gor
	for i, c := range []api.Chan{{Count: 1}, {}, {Closed: 1}} {
		at, _ := h.Alloc(api.KChan, 9)
		buf, e := h.Alloc(api.KBuf, 1)
		if e != api.OK {
			t.Fatal(e)
		}
		x := none
		x.Buf, x.Count, x.Closed = buf, c.Count, c.Closed
		view.PutChan(h, at, x)
		g.Reg[i] = value.Ptr(at)
	}
	box, _ := h.Alloc(api.KBox, 2)
	g.Reg[4], g.Reg[5] = value.Ptr(box), value.Int(7)
	return h, g
}

const (
	full = iota
	empty
	closed
	nothing
	box
	number
)

func sendTo(ch int) api.Case { return api.Case{Kind: api.CaseSend, Ch: ch} }

func takeOf(ch int) api.Case { return api.Case{Kind: api.CaseTake, Ch: ch} }

func otherwise() api.Case { return api.Case{Kind: api.CaseElse} }

func TestReady(t *testing.T) {
	h, g := made(t)
	for name, x := range map[string]struct {
		c  api.Case
		is bool
	}{
		"send to a full one":    {sendTo(full), false},
		"send to an empty one":  {sendTo(empty), true},
		"send to a closed one":  {sendTo(closed), true},
		"send to none":          {sendTo(nothing), false},
		"send to a box":         {sendTo(box), true},
		"send to a number":      {sendTo(number), true},
		"take from a full one":  {takeOf(full), true},
		"take from an empty":    {takeOf(empty), false},
		"take from a closed":    {takeOf(closed), true},
		"take from none":        {takeOf(nothing), false},
		"take from a box":       {takeOf(box), true},
		"send by no register":   {sendTo(6), false},
		"take by no register":   {takeOf(-1), false},
		"a case of no kind":     {api.Case{Kind: 9, Ch: box}, false},
		"a case of kind nought": {api.Case{Ch: box}, false},
	} {
		want := -1
		if x.is {
			want = 0
		}
		if got := Pick(h, g, []api.Case{x.c}, 0); got != want {
			t.Errorf("P18.1: Pick of %s = %d; want %d", name, got, want)
		}
	}
}

func TestTurns(t *testing.T) {
	h, g := made(t)
	for _, x := range []struct {
		l    []api.Case
		draw int
		want int
	}{
		{[]api.Case{sendTo(empty), takeOf(full), takeOf(closed)}, 0, 0},
		{[]api.Case{sendTo(empty), takeOf(full), takeOf(closed)}, 1, 1},
		{[]api.Case{sendTo(empty), takeOf(full), takeOf(closed)}, 5, 2},
		{[]api.Case{sendTo(empty), takeOf(full), takeOf(closed)}, -5, 0},
		{[]api.Case{sendTo(empty), takeOf(full), takeOf(closed)}, 1<<63 - 1, (1<<63 - 1) % 3},
		{[]api.Case{sendTo(full), takeOf(empty), takeOf(closed)}, 0, 2},
		{[]api.Case{sendTo(full), takeOf(full), takeOf(empty)}, 2, 1},
		{[]api.Case{sendTo(full), takeOf(empty), takeOf(nothing)}, 1, -1},
		{[]api.Case{sendTo(empty), takeOf(full), otherwise()}, 3, 1},
		{[]api.Case{sendTo(empty), takeOf(empty), otherwise()}, 1, 0},
		{[]api.Case{sendTo(full), takeOf(empty), otherwise()}, 1, 2},
		{[]api.Case{otherwise()}, 7, 0},
		{[]api.Case{otherwise(), sendTo(empty), takeOf(full)}, 1, 2},
		{[]api.Case{takeOf(empty), otherwise(), otherwise()}, 1, 1},
		{nil, 0, -1},
		{nil, 3, -1},
	} {
		if got := Pick(h, g, x.l, x.draw); got != x.want {
			t.Errorf("P18.1: Pick of %v, drawn %d: %d; want %d", x.l, x.draw, got, x.want)
		}
	}
	if got := Pick(nil, g, []api.Case{takeOf(empty), otherwise()}, 0); got != 0 {
		t.Errorf("P18.1: Pick of no heap: %d", got)
	}
}

func TestWaits(t *testing.T) {
	_, g := made(t)
	for _, x := range []struct {
		l    []api.Case
		want []int
	}{
		{nil, nil},
		{[]api.Case{sendTo(full), takeOf(empty), takeOf(closed)}, []int{0, 1, 2}},
		{[]api.Case{sendTo(nothing), takeOf(number), takeOf(box)}, []int{2}},
		{[]api.Case{sendTo(6), takeOf(-1), takeOf(1 << 40)}, nil},
		{[]api.Case{takeOf(nothing), sendTo(full), otherwise()}, []int{1}},
		{[]api.Case{{Kind: api.CaseElse, Ch: full}, sendTo(full)}, []int{1}},
	} {
		if got := Waits(g, x.l); !slices.Equal(got, x.want) {
			t.Errorf("P18.1: Waits of %v: %v; want %v", x.l, got, x.want)
		}
	}
}
