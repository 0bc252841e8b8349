package send

import (
	"slices"
	"testing"

	"dormouse/api"
	"dormouse/heap"
	"dormouse/list"
	"dormouse/ring"
	"dormouse/value"
	"dormouse/view"
	"dormouse/wake"
)

type place struct {
	t *testing.T
	h *heap.Heap
}

func made(t *testing.T) place {
	t.Helper()
	h, e := heap.New(16)
	if e != api.OK {
		t.Fatal(e)
	}
	return place{t, h}
}

func (p place) alloc(kind, n int) int {
	p.t.Helper()
	at, e := p.h.Alloc(kind, n)
	if e != api.OK {
		p.t.Fatal(e)
	}
	return at
}

func (p place) channel(cap int) int {
	ch, buf := p.alloc(api.KChan, 9), -1
	if cap > 0 {
		buf = p.alloc(api.KBuf, cap)
	}
	view.PutChan(p.h, ch, api.Chan{Cap: cap, Buf: buf, TakeHead: -1, TakeTail: -1, SendHead: -1, SendTail: -1})
	return ch
}

// taker lays a goroutine that waits to take from each of the channels.
func (p place) taker(chs ...int) int {
	g := p.alloc(api.KGor, 10)
	var l []int
	for i, ch := range chs {
		s := p.alloc(api.KSudog, 7)
		view.PutSudog(p.h, s, api.Sudog{Gor: g, Chan: ch, Next: -1, To: 20 + i, Reg: i, More: -1})
		list.Push(p.h, ch, false, s)
		l = append(l, s)
	}
	wake.Park(p.h, g, l)
	return g
}

func (p place) wants(w, v, who, how int) {
	p.t.Helper()
	if ready := Ready(p.h, w); ready != (how != api.Going) {
		p.t.Errorf("P15.1: Ready(%d) = %v, where it goes %d", w, ready, how)
	}
	if g, e := Try(p.h, w, v); g != who || e != how {
		p.t.Errorf("P15.1: Try(%d, %d) = %d, %d; want %d, %d", w, v, g, e, who, how)
	}
}

func TestNoChannel(t *testing.T) {
	p := made(t)
	box := p.alloc(api.KBox, 2)
	p.wants(value.Int(0), 2, -1, api.Going)
	for _, w := range []int{value.Int(1), value.Int(-1), value.Ptr(box), value.Ptr(box + 1), value.Ptr(-1)} {
		p.wants(w, 2, -1, api.BadType)
	}
	none := place{t, nil}
	for _, w := range []int{0, 2, 1} {
		none.wants(w, 2, -1, api.BadType)
	}
}

func TestHeld(t *testing.T) {
	p := made(t)
	for cap := range api.MaxCap + 1 {
		ch := p.channel(cap)
		for i := range cap {
			p.wants(value.Ptr(ch), 2*i, -1, api.Ended)
		}
		before, _ := view.Chan(p.h, ch)
		p.wants(value.Ptr(ch), 99, -1, api.Going)
		after, _ := view.Chan(p.h, ch)
		if l := ring.All(p.h, ch); !slices.Equal(l, []int{0, 2, 4}[:cap]) || before != after {
			t.Errorf("P15.1: the channel of %d holds %v", cap, l)
		}
	}
}

func TestWoken(t *testing.T) {
	p := made(t)
	ch, other := p.channel(2), p.channel(0)
	first, second := p.taker(other, ch), p.taker(ch)
	p.wants(value.Ptr(ch), 50, first, api.Ended)
	g, _ := view.Gor(p.h, first)
	if g.Pc != 21 || g.Reg[1] != 50 || g.Status != api.Runnable || len(list.All(p.h, other, false)) != 0 || len(ring.All(p.h, ch)) != 0 {
		t.Errorf("P15.1: who was woken: %+v", g)
	}
	p.wants(value.Ptr(ch), 52, second, api.Ended)
	p.wants(value.Ptr(ch), 54, -1, api.Ended)
	p.wants(value.Ptr(other), 56, -1, api.Going)
}

func TestFromOneToAnother(t *testing.T) {
	p := made(t)
	ch := p.channel(0)
	g := p.taker(ch)
	p.wants(value.Ptr(ch), 50, g, api.Ended)
	p.wants(value.Ptr(ch), 52, -1, api.Going)
}

func TestClosed(t *testing.T) {
	p := made(t)
	ch := p.channel(2)
	p.taker(ch)
	c, _ := view.Chan(p.h, ch)
	c.Closed = 1
	view.PutChan(p.h, ch, c)
	p.wants(value.Ptr(ch), 2, -1, api.SendClosed)
	narrow := p.channel(0)
	c, _ = view.Chan(p.h, narrow)
	c.Closed = 1
	view.PutChan(p.h, narrow, c)
	p.wants(value.Ptr(narrow), 2, -1, api.SendClosed)
	c, _ = view.Chan(p.h, ch)
	if after, _ := view.Chan(p.h, ch); after != c || len(ring.All(p.h, ch)) != 0 {
		t.Errorf("P15.1: something was done: %+v", after)
	}
}

func TestReadyDoesNothing(t *testing.T) {
	p := made(t)
	ch := p.channel(1)
	p.taker(ch)
	before, _ := view.Chan(p.h, ch)
	for range 3 {
		Ready(p.h, value.Ptr(ch))
	}
	if after, _ := view.Chan(p.h, ch); after != before {
		t.Errorf("P15.1: Ready did something: %+v", after)
	}
}

func TestLaidByHand(t *testing.T) {
	p := made(t)
	ch, box := p.channel(1), p.alloc(api.KBox, 2)
	s := p.alloc(api.KSudog, 7)
	view.PutSudog(p.h, s, api.Sudog{Gor: box, Chan: ch, Next: -1, More: -1})
	list.Push(p.h, ch, false, s)
	p.wants(value.Ptr(ch), 2, -1, api.Ended)
	c, _ := view.Chan(p.h, ch)
	buf := c.Buf
	for _, x := range []api.Chan{{Cap: 2, Buf: buf}, {Cap: 1, Buf: box}, {Cap: 1, Buf: -1}, {Cap: 0, Count: -4, Buf: buf}, {Cap: 1, Count: 9, Buf: buf}} {
		x.TakeHead, x.TakeTail, x.SendHead, x.SendTail = -1, -1, -1, -1
		view.PutChan(p.h, ch, x)
		p.wants(value.Ptr(ch), 2, -1, api.Going)
	}
	c.Count = -3
	view.PutChan(p.h, ch, c)
	p.wants(value.Ptr(ch), 2, -1, api.Ended)
}
