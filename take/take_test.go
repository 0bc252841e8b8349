package take

import (
	"slices"
	"testing"

	"dormouse/api"
	"dormouse/heap"
	"dormouse/list"
	"dormouse/ring"
	"dormouse/value"
	"dormouse/view"
	"dormouse/wake"
)

type place struct {
	t *testing.T
	h *heap.Heap
}

func made(t *testing.T) place {
	t.Helper()
	h, e := heap.New(16)
	if e != api.OK {
		t.Fatal(e)
	}
	return place{t, h}
}

func (p place) alloc(kind, n int) int {
	p.t.Helper()
	at, e := p.h.Alloc(kind, n)
	if e != api.OK {
		p.t.Fatal(e)
	}
	return at
}

// channel lays a channel of a cap that holds some words.
func (p place) channel(cap int, held ...int) int {
	ch, buf := p.alloc(api.KChan, 9), -1
	if cap > 0 {
		buf = p.alloc(api.KBuf, cap)
	}
	view.PutChan(p.h, ch, api.Chan{Cap: cap, Buf: buf, TakeHead: -1, TakeTail: -1, SendHead: -1, SendTail: -1})
	for _, w := range held {
		ring.Put(p.h, ch, w)
	}
	return ch
}

func (p place) close(ch int) {
	c, _ := view.Chan(p.h, ch)
	c.Closed = 1
	view.PutChan(p.h, ch, c)
}

// sender lays a goroutine that waits to send w to each of the channels.
func (p place) sender(w int, chs ...int) int {
	g := p.alloc(api.KGor, 10)
	var l []int
	for i, ch := range chs {
		s := p.alloc(api.KSudog, 7)
		view.PutSudog(p.h, s, api.Sudog{Gor: g, Chan: ch, Value: w, Next: -1, To: 20 + i, Reg: -1, More: -1})
		list.Push(p.h, ch, true, s)
		l = append(l, s)
	}
	wake.Park(p.h, g, l)
	return g
}

func (p place) wants(w, v, who, how int) {
	p.t.Helper()
	if ready := Ready(p.h, w); ready != (how != api.Going) {
		p.t.Errorf("P16.1: Ready(%d) = %v, where it goes %d", w, ready, how)
	}
	if x, g, e := Try(p.h, w); x != v || g != who || e != how {
		p.t.Errorf("P16.1: Try(%d) = %d, %d, %d; want %d, %d, %d", w, x, g, e, v, who, how)
	}
}

func TestNoChannel(t *testing.T) {
	p := made(t)
	box := p.alloc(api.KBox, 2)
	p.wants(value.Int(0), 0, -1, api.Going)
	for _, w := range []int{value.Int(1), value.Int(-1), value.Ptr(box), value.Ptr(box + 1), value.Ptr(-1)} {
		p.wants(w, 0, -1, api.BadType)
	}
	none := place{t, nil}
	for _, w := range []int{0, 2, 1} {
		none.wants(w, 0, -1, api.BadType)
	}
}

func TestHeld(t *testing.T) {
	p := made(t)
	ch := p.channel(3, 10, 12)
	p.wants(value.Ptr(ch), 10, -1, api.Ended)
	p.wants(value.Ptr(ch), 12, -1, api.Ended)
	before, _ := view.Chan(p.h, ch)
	p.wants(value.Ptr(ch), 0, -1, api.Going)
	if after, _ := view.Chan(p.h, ch); after != before {
		t.Errorf("P16.1: something was done: %+v", after)
	}
}

func TestSendersMoveUp(t *testing.T) {
	p := made(t)
	ch, other := p.channel(2, 10, 12), p.channel(0)
	first, second := p.sender(14, other, ch), p.sender(16, ch)
	p.wants(value.Ptr(ch), 10, first, api.Ended)
	g, _ := view.Gor(p.h, first)
	if g.Pc != 21 || g.Reg != [api.Regs]int{} || g.Status != api.Runnable || len(list.All(p.h, other, true)) != 0 {
		t.Errorf("P16.1: who was woken: %+v", g)
	}
	if l := ring.All(p.h, ch); !slices.Equal(l, []int{12, 14}) {
		t.Errorf("P16.1: the channel holds %v", l)
	}
	p.wants(value.Ptr(ch), 12, second, api.Ended)
	p.wants(value.Ptr(ch), 14, -1, api.Ended)
	p.wants(value.Ptr(ch), 16, -1, api.Ended)
	p.wants(value.Ptr(ch), 0, -1, api.Going)
	p.wants(value.Ptr(other), 0, -1, api.Going)
}

func TestFromOneToAnother(t *testing.T) {
	p := made(t)
	ch := p.channel(0)
	first, second := p.sender(14, ch), p.sender(16, ch)
	p.wants(value.Ptr(ch), 14, first, api.Ended)
	p.wants(value.Ptr(ch), 16, second, api.Ended)
	p.wants(value.Ptr(ch), 0, -1, api.Going)
}

// One that waits to send has no register; where one was laid by hand, 0 comes into it.
func TestSenderIsWokenWithNought(t *testing.T) {
	p := made(t)
	ch := p.channel(0)
	g, s := p.alloc(api.KGor, 10), p.alloc(api.KSudog, 7)
	view.PutGor(p.h, g, api.Gor{Reg: [api.Regs]int{8, 8}, Sudogs: -1})
	view.PutSudog(p.h, s, api.Sudog{Gor: g, Chan: ch, Value: 6, Next: -1, Reg: 1, More: -1})
	list.Push(p.h, ch, true, s)
	p.wants(value.Ptr(ch), 6, g, api.Ended)
	if v, _ := view.Gor(p.h, g); v.Reg != [api.Regs]int{8, 0} {
		t.Errorf("P16.1: who was woken: %+v", v)
	}
}

func TestClosed(t *testing.T) {
	p := made(t)
	ch, empty := p.channel(2, 10, 12), p.channel(0)
	p.close(ch)
	p.close(empty)
	p.wants(value.Ptr(ch), 10, -1, api.Ended)
	p.wants(value.Ptr(ch), 12, -1, api.Ended)
	for range 3 {
		p.wants(value.Ptr(ch), 0, -1, api.Ended)
		p.wants(value.Ptr(empty), 0, -1, api.Ended)
	}
	g := p.sender(14, empty)
	p.wants(value.Ptr(empty), 14, g, api.Ended)
}

func TestReadyDoesNothing(t *testing.T) {
	p := made(t)
	ch := p.channel(1, 10)
	p.sender(12, ch)
	before, _ := view.Chan(p.h, ch)
	for range 3 {
		Ready(p.h, value.Ptr(ch))
	}
	if after, _ := view.Chan(p.h, ch); after != before {
		t.Errorf("P16.1: Ready did something: %+v", after)
	}
}

func TestLaidByHand(t *testing.T) {
	p := made(t)
	ch, box := p.channel(1), p.alloc(api.KBox, 2)
	s := p.alloc(api.KSudog, 7)
	view.PutSudog(p.h, s, api.Sudog{Gor: box, Chan: ch, Value: 8, Next: -1, More: -1})
	list.Push(p.h, ch, true, s)
	p.wants(value.Ptr(ch), 8, -1, api.Ended)
}
