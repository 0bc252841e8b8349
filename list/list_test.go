package list

import (
	"slices"
	"testing"

	"dormouse/api"
	"dormouse/heap"
	"dormouse/view"
)

type place struct {
	t  *testing.T
	h  *heap.Heap
	ch int
}

func made(t *testing.T) place {
	t.Helper()
	h, e := heap.New(16)
	if e != api.OK {
		t.Fatal(e)
	}
	ch, _ := h.Alloc(api.KChan, 9)
	return place{t, h, ch}
}

func (p place) sudogs(n int) []int {
	p.t.Helper()
	var l []int
	for range n {
		s, e := p.h.Alloc(api.KSudog, 7)
		if e != api.OK {
			p.t.Fatal(e)
		}
		view.PutSudog(p.h, s, api.Sudog{Gor: -1, Chan: p.ch, Next: 3, More: -1, To: 5})
		l = append(l, s)
	}
	return l
}

func (p place) push(send bool, l ...int) {
	p.t.Helper()
	for _, s := range l {
		if e := Push(p.h, p.ch, send, s); e != api.OK {
			p.t.Errorf("P13.1: Push(%d): %d", s, e)
		}
	}
}

// wants looks at the list, its head, its tail, and the nexts.
func (p place) wants(send bool, want ...int) {
	p.t.Helper()
	if l := All(p.h, p.ch, send); !slices.Equal(l, want) {
		p.t.Errorf("P13.1: All: %v; want %v", l, want)
	}
	head, tail := -1, -1
	if len(want) > 0 {
		head, tail = want[0], want[len(want)-1]
	}
	c, _ := view.Chan(p.h, p.ch)
	if h, t := ends(c, send); h != head || t != tail {
		p.t.Errorf("P13.1: head %d, tail %d; want %d, %d", h, t, head, tail)
	}
	for i, at := range want {
		next := -1
		if i+1 < len(want) {
			next = want[i+1]
		}
		p.wantNext(at, next)
	}
}

func (p place) wantNext(at, next int) {
	p.t.Helper()
	if s, _ := view.Sudog(p.h, at); s.Next != next || s.To != 5 || s.Chan != p.ch {
		p.t.Errorf("P13.1: the sudog %d: %+v; want the next %d", at, s, next)
	}
}

func TestPushAndPop(t *testing.T) {
	for _, send := range []bool{false, true} {
		p := made(t)
		p.wants(send)
		l := p.sudogs(3)
		for i := range l {
			p.push(send, l[i])
			p.wants(send, l[:i+1]...)
		}
		p.wants(!send)
		for i := range l {
			if s, ok := Pop(p.h, p.ch, send); s != l[i] || !ok {
				t.Errorf("P13.1: Pop = %d, %v; want %d", s, ok, l[i])
			}
			p.wantNext(l[i], -1)
			p.wants(send, l[i+1:]...)
		}
		if s, ok := Pop(p.h, p.ch, send); s != 0 || ok {
			t.Errorf("P13.1: Pop of none: %d, %v", s, ok)
		}
		p.push(send, l[2], l[0])
		p.wants(send, l[2], l[0])
	}
}

func TestRemove(t *testing.T) {
	for _, send := range []bool{false, true} {
		for gone := range 4 {
			p := made(t)
			l := p.sudogs(4)
			p.push(send, l...)
			if Remove(p.h, p.ch, !send, l[gone]) {
				t.Error("P13.1: Remove of the other list")
			}
			if !Remove(p.h, p.ch, send, l[gone]) || Remove(p.h, p.ch, send, l[gone]) {
				t.Errorf("P13.1: Remove of number %d", gone)
			}
			p.wantNext(l[gone], -1)
			p.wants(send, slices.Delete(slices.Clone(l), gone, gone+1)...)
		}
		p := made(t)
		l := p.sudogs(2)
		p.push(send, l[0])
		if Remove(p.h, p.ch, send, l[1]) || Remove(p.h, p.ch, send, -1) || Remove(p.h, p.ch, send, p.ch) || !Remove(p.h, p.ch, send, l[0]) {
			t.Error("P13.1: Remove of those who wait not, or of the only one")
		}
		p.wants(send)
	}
}

func TestErrors(t *testing.T) {
	p := made(t)
	s := p.sudogs(1)[0]
	if e := Push(p.h, s, true, s); e != api.ErrKind {
		t.Errorf("P13.1: Push to no channel: %d", e)
	}
	if e := Push(p.h, p.ch, true, p.ch); e != api.ErrKind {
		t.Errorf("P13.1: Push of no sudog: %d", e)
	}
	p.wants(true)
	p.wantNext(s, 3)
	if e := Push(nil, p.ch, true, s); e != api.ErrNil {
		t.Errorf("P13.1: Push of no heap: %d", e)
	}
	for _, h := range []*heap.Heap{nil, {}, p.h} {
		at, ok := Pop(h, s, true)
		if at != 0 || ok || Remove(h, s, true, s) || len(All(h, s, true)) != 0 {
			t.Errorf("P13.1: somebody waits at no channel: %d, %v", at, ok)
		}
	}
}

// A sudog at place 0 is no list of a place that is no channel.
func TestNoChannelHasNoHead(t *testing.T) {
	h, _ := heap.New(2)
	s, _ := h.Alloc(api.KSudog, 7)
	if at, ok := Pop(h, 32, false); at != 0 || ok || s != 0 {
		t.Errorf("P13.1: Pop at no channel: %d, %v", at, ok)
	}
}

func TestListsThatGoRound(t *testing.T) {
	p := made(t)
	l := p.sudogs(3)
	p.push(false, l...)
	setNext(p.h, l[2], l[1])
	if got := All(p.h, p.ch, false); !slices.Equal(got, l) {
		t.Errorf("R1: All of a list that goes round: %v", got)
	}
	more := p.sudogs(1)[0]
	p.push(false, more)
	p.wants(false, l[0], l[1], l[2], more)
	setNext(p.h, more, more)
	if !Remove(p.h, p.ch, false, l[1]) || !slices.Equal(All(p.h, p.ch, false), []int{l[0], l[2], more}) {
		t.Errorf("R1: Remove of a list that goes round: %v", All(p.h, p.ch, false))
	}
	for range 9 {
		Pop(p.h, p.ch, false)
	}
	if got := All(p.h, p.ch, false); len(got) != 0 {
		t.Errorf("R1: Pop of a list that goes round: %v", got)
	}
}

func TestListsThatLeadAway(t *testing.T) {
	p := made(t)
	l := p.sudogs(2)
	box, _ := p.h.Alloc(api.KBox, 2)
	p.push(true, l...)
	setNext(p.h, l[1], box)
	if got := All(p.h, p.ch, true); !slices.Equal(got, l) {
		t.Errorf("P13.1: as long as there are sudogs: %v", got)
	}
	setEnds(p.h, p.ch, false, box, box)
	if at, ok := Pop(p.h, p.ch, false); at != 0 || ok {
		t.Errorf("P13.1: a box waits: %d, %v", at, ok)
	}
	again := p.sudogs(1)[0]
	p.push(false, again)
	p.wants(false, again)
}

func TestPushedTwice(t *testing.T) {
	p := made(t)
	l := p.sudogs(2)
	p.push(true, l[0], l[1], l[1])
	p.wants(true, l...)
}
