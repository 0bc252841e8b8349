package wake

import (
	"slices"
	"testing"

	"dormouse/api"
	"dormouse/heap"
	"dormouse/list"
	"dormouse/value"
	"dormouse/view"
)

func alloc(t *testing.T, h *heap.Heap, kind, n int) int {
	t.Helper()
	at, e := h.Alloc(kind, n)
	if e != api.OK {
		t.Fatal(e)
	}
	return at
}

func made(t *testing.T) *heap.Heap {
	t.Helper()
	h, e := heap.New(16)
	if e != api.OK {
		t.Fatal(e)
	}
	return h
}

func channel(t *testing.T, h *heap.Heap) int { return alloc(t, h, api.KChan, 9) }

func goroutine(t *testing.T, h *heap.Heap, id int) int {
	at := alloc(t, h, api.KGor, 10)
	view.PutGor(h, at, api.Gor{Id: id, Pc: 7, Reg: [api.Regs]int{2, 4, 6, 8, 10, 12}, Sudogs: -1})
	return at
}

func sudog(t *testing.T, h *heap.Heap, s api.Sudog) int {
	at := alloc(t, h, api.KSudog, 7)
	view.PutSudog(h, at, s)
	return at
}

func TestParkAndWake(t *testing.T) {
	h := made(t)
	g, other := goroutine(t, h, 3), goroutine(t, h, 4)
	first, second := channel(t, h), channel(t, h)
	one := sudog(t, h, api.Sudog{Gor: g, Chan: first, Next: -1, To: 11, Reg: -1, More: 5})
	two := sudog(t, h, api.Sudog{Gor: g, Chan: second, Next: -1, To: 12, Reg: 2, More: 5})
	three := sudog(t, h, api.Sudog{Gor: g, Chan: second, Next: -1, To: 13, Reg: 5, More: 5})
	alone := sudog(t, h, api.Sudog{Gor: other, Chan: second, Next: -1, To: 14, Reg: 0, More: 5})
	list.Push(h, first, true, one)
	list.Push(h, second, false, two)
	list.Push(h, second, false, alone)
	list.Push(h, second, false, three)
	if Park(h, g, []int{one, two, three}) != api.OK || Park(h, other, []int{alone}) != api.OK {
		t.Error("P14.1: Park")
	}
	for s, more := range map[int]int{one: two, two: three, three: -1, alone: -1} {
		if v, _ := view.Sudog(h, s); v.More != more {
			t.Errorf("P14.1: %d has more %d; want %d", s, v.More, more)
		}
	}
	if v, _ := view.Gor(h, g); v.Status != api.Blocked || v.Sudogs != one || v.Pc != 7 || v.Id != 3 {
		t.Errorf("P14.1: who waits: %+v", v)
	}
	at, e := Wake(h, two, value.Int(50))
	want := api.Gor{Id: 3, Pc: 12, Reg: [api.Regs]int{2, 4, 100, 8, 10, 12}, Sudogs: -1}
	if v, _ := view.Gor(h, g); at != g || e != api.OK || v != want {
		t.Errorf("P14.1: who was woken: %d, %d, %+v; want %+v", at, e, v, want)
	}
	if l := list.All(h, second, false); len(list.All(h, first, true)) != 0 || !slices.Equal(l, []int{alone}) {
		t.Errorf("P14.1: who was woken waits: %v", l)
	}
}

func TestWakeNeedsNoList(t *testing.T) {
	h := made(t)
	g := goroutine(t, h, 1)
	for _, reg := range []int{-1, api.Regs, 1 << 40} {
		s := sudog(t, h, api.Sudog{Gor: g, Chan: -1, Next: -1, To: 2, Reg: reg, More: -1})
		if at, e := Wake(h, s, 99); at != g || e != api.OK {
			t.Errorf("P14.1: Wake: %d, %d", at, e)
		}
		if v, _ := view.Gor(h, g); v.Reg != [api.Regs]int{2, 4, 6, 8, 10, 12} || v.Pc != 2 {
			t.Errorf("P14.1: the register %d: %+v", reg, v)
		}
	}
}

func TestBothLists(t *testing.T) {
	h := made(t)
	g, ch := goroutine(t, h, 1), channel(t, h)
	s := sudog(t, h, api.Sudog{Gor: g, Chan: ch, Next: -1, More: -1})
	list.Push(h, ch, true, s)
	list.Push(h, ch, false, s)
	Park(h, g, []int{s})
	Wake(h, s, 0)
	if len(list.All(h, ch, true)) != 0 || len(list.All(h, ch, false)) != 0 {
		t.Error("P14.1: who was woken waits in one of both lists")
	}
}

func TestWakeShades(t *testing.T) {
	h := made(t)
	g, box := goroutine(t, h, 1), alloc(t, h, api.KBox, 2)
	s := sudog(t, h, api.Sudog{Gor: g, Chan: -1, Next: -1, Reg: 0, More: -1})
	h.Begin(nil)
	Wake(h, s, value.Ptr(box))
	if h.Colour(g) != api.Grey || h.Colour(box) != api.Grey || h.Colour(s) != api.White {
		t.Errorf("P14.1: colours %d, %d", h.Colour(g), h.Colour(box))
	}
}

func TestWakeRefuses(t *testing.T) {
	h := made(t)
	g := goroutine(t, h, 1)
	stray := sudog(t, h, api.Sudog{Gor: -1, Chan: -1, Next: -1, More: -1})
	astray := sudog(t, h, api.Sudog{Gor: stray, Chan: -1, Next: -1, More: -1})
	for _, s := range []int{g, -1, 1 << 40, stray, astray} {
		if at, e := Wake(h, s, 1); at != 0 || e != api.ErrKind {
			t.Errorf("P14.1: Wake of %d: %d, %d", s, at, e)
		}
	}
	if at, e := Wake(nil, 0, 0); at != 0 || e != api.ErrNil {
		t.Errorf("P14.1: Wake of no heap: %d, %d", at, e)
	}
}

func TestParkRefuses(t *testing.T) {
	h := made(t)
	g := goroutine(t, h, 1)
	s := sudog(t, h, api.Sudog{Gor: g, Chan: -1, Next: -1, More: 3})
	if Park(nil, g, nil) != api.ErrNil || Park(h, s, nil) != api.ErrKind || Park(h, g, []int{s, g}) != api.ErrKind {
		t.Error("P14.1: Park of what may not wait")
	}
	v, _ := view.Gor(h, g)
	if x, _ := view.Sudog(h, s); x.More != 3 || v.Status != api.Runnable {
		t.Errorf("R4: %+v, %+v", x, v)
	}
	if e := Park(h, g, nil); e != api.OK {
		t.Errorf("P14.1: Park for ever: %d", e)
	}
	if v, _ := view.Gor(h, g); v.Status != api.Blocked || v.Sudogs != -1 {
		t.Errorf("P14.1: who waits for ever: %+v", v)
	}
}

func TestSudogsThatGoRound(t *testing.T) {
	h := made(t)
	g := goroutine(t, h, 1)
	s := sudog(t, h, api.Sudog{Gor: g, Chan: -1, Next: -1, More: -1})
	if e := Park(h, g, []int{s, s}); e != api.OK {
		t.Errorf("R1: Park twice: %d", e)
	}
	setMore(h, s, s)
	if at, e := Wake(h, s, 0); at != g || e != api.OK {
		t.Errorf("R1: Wake of sudogs that go round: %d, %d", at, e)
	}
}
