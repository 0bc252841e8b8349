package view

import (
	"testing"

	"dormouse/api"
	"dormouse/heap"
	"dormouse/value"
)

func made(t *testing.T) *heap.Heap {
	t.Helper()
	h, e := heap.New(8)
	if e != api.OK {
		t.Fatal(e)
	}
	return h
}

func wantWords(t *testing.T, h *heap.Heap, at int, want ...int) {
	t.Helper()
	for i, w := range want {
		if got, e := h.Load(at, i); got != w || e != api.OK {
			t.Errorf("P11.1: word %d is %d, %d; want %d", i, got, e, w)
		}
	}
}

func TestChan(t *testing.T) {
	h := made(t)
	at, _ := h.Alloc(api.KChan, 9)
	fresh := api.Chan{Buf: -1, TakeHead: -1, TakeTail: -1, SendHead: -1, SendTail: -1}
	if c, e := Chan(h, at); c != fresh || e != api.OK {
		t.Errorf("P11.1: a new channel: %+v, %d", c, e)
	}
	want := api.Chan{Cap: 3, Closed: 1, Count: 2, Start: 1, Buf: 0, TakeHead: 4, TakeTail: 5, SendHead: 6, SendTail: 7}
	if e := PutChan(h, at, want); e != api.OK {
		t.Errorf("P11.1: PutChan: %d", e)
	}
	wantWords(t, h, at, 6, 2, 4, 2, 1, 9, 11, 13, 15)
	if c, e := Chan(h, at); c != want || e != api.OK {
		t.Errorf("P11.1: what is put is seen: %+v, %d", c, e)
	}
	PutChan(h, at, api.Chan{Cap: -1, Buf: -1, TakeHead: -2, TakeTail: -1 << 63, SendHead: -1, SendTail: -1})
	wantWords(t, h, at, -2, 0, 0, 0, 0, 0, 0, 0, 0)
}

func TestSudog(t *testing.T) {
	h := made(t)
	at, _ := h.Alloc(api.KSudog, 7)
	if s, e := Sudog(h, at); s != (api.Sudog{Gor: -1, Chan: -1, Next: -1, More: -1}) || e != api.OK {
		t.Errorf("P11.1: a new sudog: %+v, %d", s, e)
	}
	want := api.Sudog{Gor: 1, Chan: 2, Value: 77, Next: 3, To: 4, Reg: -1, More: 0}
	if e := PutSudog(h, at, want); e != api.OK {
		t.Errorf("P11.1: PutSudog: %d", e)
	}
	wantWords(t, h, at, 3, 5, 77, 7, 8, -2, 1)
	if s, e := Sudog(h, at); s != want || e != api.OK {
		t.Errorf("P11.1: what is put is seen: %+v, %d", s, e)
	}
	PutSudog(h, at, api.Sudog{Gor: -1, Chan: -1, Next: -1, More: -1})
	wantWords(t, h, at, 0, 0, 0, 0, 0, 0, 0)
}

func TestGor(t *testing.T) {
	h := made(t)
	at, _ := h.Alloc(api.KGor, 10)
	if g, e := Gor(h, at); g != (api.Gor{Sudogs: -1}) || e != api.OK {
		t.Errorf("P11.1: a new goroutine: %+v, %d", g, e)
	}
	want := api.Gor{Id: 9, Status: api.Blocked, Pc: 3, Reg: [api.Regs]int{1, 2, 3, -4, 5, 6}, Sudogs: 12}
	if e := PutGor(h, at, want); e != api.OK {
		t.Errorf("P11.1: PutGor: %d", e)
	}
	wantWords(t, h, at, 18, 2, 6, 1, 2, 3, -4, 5, 6, 25)
	if g, e := Gor(h, at); g != want || e != api.OK {
		t.Errorf("P11.1: what is put is seen: %+v, %d", g, e)
	}
}

func TestWordsOfTheOtherKind(t *testing.T) {
	h := made(t)
	at, _ := h.Alloc(api.KChan, 9)
	h.Store(at, 0, value.Ptr(3))
	h.Store(at, 4, value.Int(3))
	h.Store(at, 5, value.Ptr(-7))
	if c, _ := Chan(h, at); c.Cap != 0 || c.Buf != -1 || c.TakeHead != -7 {
		t.Errorf("P11.1: a number for a place: %+v", c)
	}
	g, _ := h.Alloc(api.KGor, 10)
	h.Store(g, 2, value.Ptr(3))
	h.Store(g, 3, value.Ptr(3))
	if v, _ := Gor(h, g); v.Pc != 0 || v.Reg[0] != value.Ptr(3) {
		t.Errorf("P11.1: a place for a number: %+v", v)
	}
}

func TestErrKind(t *testing.T) {
	h := made(t)
	ch, _ := h.Alloc(api.KChan, 9)
	s, _ := h.Alloc(api.KSudog, 7)
	g, _ := h.Alloc(api.KGor, 10)
	box, _ := h.Alloc(api.KBox, 2)
	shortChan, _ := h.Alloc(api.KChan, 8)
	longChan, _ := h.Alloc(api.KChan, 10)
	shortSudog, _ := h.Alloc(api.KSudog, 6)
	shortGor, _ := h.Alloc(api.KGor, 9)
	for _, at := range []int{s, g, box, shortChan, longChan, ch + 1, -1, 1 << 40} {
		if c, e := Chan(h, at); c != (api.Chan{}) || e != api.ErrKind || PutChan(h, at, api.Chan{Cap: 1}) != api.ErrKind {
			t.Errorf("P11.1: Chan at %d: %+v, %d", at, c, e)
		}
	}
	for _, at := range []int{ch, g, box, shortSudog, -1} {
		if c, e := Sudog(h, at); c != (api.Sudog{}) || e != api.ErrKind || PutSudog(h, at, api.Sudog{}) != api.ErrKind {
			t.Errorf("P11.1: Sudog at %d: %+v, %d", at, c, e)
		}
	}
	for _, at := range []int{ch, s, box, shortGor, -1} {
		if c, e := Gor(h, at); c != (api.Gor{}) || e != api.ErrKind || PutGor(h, at, api.Gor{}) != api.ErrKind {
			t.Errorf("P11.1: Gor at %d: %+v, %d", at, c, e)
		}
	}
	wantWords(t, h, shortChan, 0, 0, 0, 0)
}

func TestOnlyOtherWordsAreStored(t *testing.T) {
	h := made(t)
	at, _ := h.Alloc(api.KSudog, 7)
	same, _ := h.Alloc(api.KBox, 2)
	fresh, _ := h.Alloc(api.KBox, 2)
	h.Store(at, 2, value.Ptr(same))
	h.Begin(nil)
	s, _ := Sudog(h, at)
	s.To = 5
	PutSudog(h, at, s)
	if h.Colour(same) != api.White {
		t.Error("P11.1: a word that stands there already is stored")
	}
	s.Gor = fresh
	PutSudog(h, at, s)
	if h.Colour(fresh) != api.Grey || h.Colour(same) != api.White {
		t.Errorf("P11.1: a word that is another one: %d, %d", h.Colour(fresh), h.Colour(same))
	}
}

func TestNoHeap(t *testing.T) {
	_, c := Chan(nil, 0)
	_, s := Sudog(nil, 0)
	_, g := Gor(nil, 0)
	if c != api.ErrNil || s != api.ErrNil || g != api.ErrNil {
		t.Errorf("P11.1: of no heap: %d, %d, %d", c, s, g)
	}
	if PutChan(nil, 0, api.Chan{}) != api.ErrNil || PutSudog(nil, 0, api.Sudog{}) != api.ErrNil || PutGor(nil, 0, api.Gor{}) != api.ErrNil {
		t.Error("P11.1: something is put into no heap")
	}
	if _, e := Chan(&heap.Heap{}, 0); e != api.ErrKind {
		t.Errorf("R1: of a heap without an arena: %d", e)
	}
}
