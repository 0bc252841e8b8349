package shut

import (
	"slices"
	"testing"

	"dormouse/api"
	"dormouse/heap"
	"dormouse/list"
	"dormouse/value"
	"dormouse/view"
	"dormouse/wake"
)

type place struct {
	t *testing.T
	h *heap.Heap
}

func made(t *testing.T) place {
	t.Helper()
	h, e := heap.New(16)
	if e != api.OK {
		t.Fatal(e)
	}
	return place{t, h}
}

func (p place) alloc(kind, n int) int {
	p.t.Helper()
	at, e := p.h.Alloc(kind, n)
	if e != api.OK {
		p.t.Fatal(e)
	}
	return at
}

func (p place) channel() int { return p.alloc(api.KChan, 9) }

// waiter lays a goroutine that waits at each of the channels.
func (p place) waiter(send bool, chs ...int) int {
	g := p.alloc(api.KGor, 10)
	view.PutGor(p.h, g, api.Gor{Reg: [api.Regs]int{90, 92}, Sudogs: -1})
	var l []int
	for i, ch := range chs {
		s := p.alloc(api.KSudog, 7)
		view.PutSudog(p.h, s, api.Sudog{Gor: g, Chan: ch, Next: -1, To: 20 + i, Reg: i, More: -1})
		list.Push(p.h, ch, send, s)
		l = append(l, s)
	}
	wake.Park(p.h, g, l)
	return g
}

func (p place) wants(w, how int, who ...int) {
	p.t.Helper()
	if l, e := Try(p.h, w); !slices.Equal(l, who) || e != how {
		p.t.Errorf("P17.1: Try(%d) = %v, %d; want %v, %d", w, l, e, who, how)
	}
}

func TestNoChannel(t *testing.T) {
	p := made(t)
	box := p.alloc(api.KBox, 2)
	p.wants(value.Int(0), api.ShutNil)
	for _, w := range []int{value.Int(1), value.Int(-1), value.Ptr(box), value.Ptr(box + 1), value.Ptr(-1)} {
		p.wants(w, api.BadType)
	}
	none := place{t, nil}
	for _, w := range []int{0, 2, 1} {
		none.wants(w, api.BadType)
	}
}

func TestShut(t *testing.T) {
	p := made(t)
	ch := p.channel()
	p.wants(value.Ptr(ch), api.Ended)
	c, _ := view.Chan(p.h, ch)
	if c != (api.Chan{Closed: 1, Buf: -1, TakeHead: -1, TakeTail: -1, SendHead: -1, SendTail: -1}) {
		t.Errorf("P17.1: the channel: %+v", c)
	}
	p.wants(value.Ptr(ch), api.ShutClosed)
	c.Closed = -1
	view.PutChan(p.h, ch, c)
	p.wants(value.Ptr(ch), api.ShutClosed)
}

func TestTakersAreWoken(t *testing.T) {
	p := made(t)
	ch, other := p.channel(), p.channel()
	first, second, third := p.waiter(false, other, ch), p.waiter(false, ch, ch), p.waiter(false, ch)
	stays := p.waiter(false, other)
	p.wants(value.Ptr(ch), api.Ended, first, second, third)
	for g, want := range map[int]api.Gor{
		first:  {Pc: 21, Reg: [api.Regs]int{90, 0}, Sudogs: -1},
		second: {Pc: 20, Reg: [api.Regs]int{0, 92}, Sudogs: -1},
		third:  {Pc: 20, Reg: [api.Regs]int{0, 92}, Sudogs: -1},
	} {
		if v, _ := view.Gor(p.h, g); v != want {
			t.Errorf("P17.1: who was woken: %+v; want %+v", v, want)
		}
	}
	if l := list.All(p.h, ch, false); len(l) != 0 {
		t.Errorf("nobody waits to take from what is closed: %v", l)
	}
	if v, _ := view.Gor(p.h, stays); v.Status != api.Blocked || len(list.All(p.h, other, false)) != 1 {
		t.Errorf("P17.1: who waits elsewhere: %+v", v)
	}
}

func TestSomebodyWaitsToSend(t *testing.T) {
	p := made(t)
	ch := p.channel()
	p.waiter(true, ch)
	taker := p.waiter(false, ch)
	before, _ := view.Chan(p.h, ch)
	p.wants(value.Ptr(ch), api.SendClosed)
	after, _ := view.Chan(p.h, ch)
	if v, _ := view.Gor(p.h, taker); after != before || v.Status != api.Blocked {
		t.Errorf("P17.1: something was done: %+v", after)
	}
	before.Closed = 1
	view.PutChan(p.h, ch, before)
	p.wants(value.Ptr(ch), api.ShutClosed)
}

func TestLaidByHand(t *testing.T) {
	p := made(t)
	ch, box := p.channel(), p.alloc(api.KBox, 2)
	g := p.waiter(false, ch)
	s := p.alloc(api.KSudog, 7)
	view.PutSudog(p.h, s, api.Sudog{Gor: box, Chan: ch, Next: -1, More: -1})
	list.Push(p.h, ch, false, s)
	v, _ := view.Sudog(p.h, s)
	v.Next = s
	view.PutSudog(p.h, s, v)
	p.wants(value.Ptr(ch), api.Ended, g)
}
