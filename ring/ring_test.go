package ring

import (
	"slices"
	"testing"

	"dormouse/api"
	"dormouse/heap"
	"dormouse/value"
	"dormouse/view"
)

// channel lays a channel of a cap, and its words.
func channel(t *testing.T, h *heap.Heap, cap int) int {
	t.Helper()
	ch, e := h.Alloc(api.KChan, 9)
	buf, f := h.Alloc(api.KBuf, cap)
	if e != api.OK || f != api.OK {
		t.Fatal(e, f)
	}
	put(t, h, ch, api.Chan{Cap: cap, Buf: buf, TakeHead: -1, TakeTail: -1, SendHead: -1, SendTail: -1})
	return ch
}

func put(t *testing.T, h *heap.Heap, ch int, c api.Chan) {
	t.Helper()
	if e := view.PutChan(h, ch, c); e != api.OK {
		t.Fatal(e)
	}
}

func made(t *testing.T) *heap.Heap {
	t.Helper()
	h, e := heap.New(8)
	if e != api.OK {
		t.Fatal(e)
	}
	return h
}

func TestFirstInFirstOut(t *testing.T) {
	for cap := range api.MaxCap + 1 {
		h := made(t)
		ch := channel(t, h, cap)
		var want []int
		for i := range 40 {
			if i%5 == 1 || i%7 < 3 {
				e := Put(h, ch, i)
				if (e == api.OK) != (len(want) < cap) || e != api.OK && e != api.ErrRoom {
					t.Fatalf("P12.1: Put with %d of %d: %d", len(want), cap, e)
				}
				if e == api.OK {
					want = append(want, i)
				}
			} else {
				w, e := Take(h, ch)
				if len(want) == 0 {
					if w != 0 || e != api.ErrNone {
						t.Fatalf("P12.1: Take of none: %d, %d", w, e)
					}
				} else {
					if w != want[0] || e != api.OK {
						t.Fatalf("P12.1: Take: %d, %d; want %d", w, e, want[0])
					}
					want = want[1:]
				}
			}
			c, _ := view.Chan(h, ch)
			if !slices.Equal(All(h, ch), want) || c.Count != len(want) {
				t.Fatalf("P12.1: All: %v, %d; want %v", All(h, ch), c.Count, want)
			}
		}
	}
}

func TestWhereWordsStand(t *testing.T) {
	h := made(t)
	ch := channel(t, h, 3)
	c, _ := view.Chan(h, ch)
	c.Start = 2
	put(t, h, ch, c)
	Put(h, ch, 10)
	Put(h, ch, 12)
	for i, want := range []int{12, 0, 10} {
		if w, _ := h.Load(c.Buf, i); w != want {
			t.Errorf("P12.1: word %d is %d; want %d", i, w, want)
		}
	}
	if w, e := Take(h, ch); w != 10 || e != api.OK {
		t.Errorf("P12.1: Take: %d, %d", w, e)
	}
	now, _ := view.Chan(h, ch)
	if w, _ := h.Load(c.Buf, 2); w != 0 || now.Start != 0 || now.Count != 1 {
		t.Errorf("P12.1: what was taken is there yet: %d, %+v", w, now)
	}
}

func TestPutShades(t *testing.T) {
	h := made(t)
	ch := channel(t, h, 1)
	box, _ := h.Alloc(api.KBox, 2)
	h.Begin(nil)
	Put(h, ch, value.Ptr(box))
	if h.Colour(box) != api.Grey {
		t.Errorf("P12.1: what is put is not stored by the heap: %d", h.Colour(box))
	}
}

func TestLaidByHand(t *testing.T) {
	h := made(t)
	ch := channel(t, h, 2)
	c, _ := view.Chan(h, ch)
	h.Store(c.Buf, 0, 20)
	h.Store(c.Buf, 1, 22)
	for _, x := range []struct {
		start, count int
		all          []int
		put          api.Errno
	}{
		{-5, -5, nil, api.OK},
		{-1, 1, []int{20}, api.OK},
		{7, 1, []int{22}, api.OK},
		{1 << 61, 2, []int{20, 22}, api.ErrRoom},
		{1, 1 << 61, []int{22, 20}, api.ErrRoom},
	} {
		c.Start, c.Count = x.start, x.count
		put(t, h, ch, c)
		if l := All(h, ch); !slices.Equal(l, x.all) {
			t.Errorf("P12.1: from %d on, %d: %v; want %v", x.start, x.count, l, x.all)
		}
		if e := Put(h, ch, 20); e != x.put {
			t.Errorf("P12.1: Put from %d on, %d: %d; want %d", x.start, x.count, e, x.put)
		}
		h.Store(c.Buf, 0, 20)
		h.Store(c.Buf, 1, 22)
	}
	c.Start, c.Count = -3, 1
	put(t, h, ch, c)
	if w, e := Take(h, ch); w != 20 || e != api.OK {
		t.Errorf("P12.1: a start below 0: %d, %d", w, e)
	}
	if now, _ := view.Chan(h, ch); now.Start != 1 || now.Count != 0 {
		t.Errorf("P12.1: the next one: %+v", now)
	}
}

func TestNoWords(t *testing.T) {
	h := made(t)
	none := channel(t, h, 0)
	box, _ := h.Alloc(api.KBox, 2)
	c, _ := view.Chan(h, none)
	for name, x := range map[string]api.Chan{
		"a buf of no words":   {Cap: 0, Count: 5, Buf: c.Buf},
		"a box":               {Cap: 2, Count: 1, Buf: box},
		"another cap":         {Cap: 1, Count: 1, Buf: c.Buf},
		"none":                {Cap: 2, Count: 1, Buf: -1},
		"a far place":         {Cap: 2, Count: 1, Buf: 1 << 40},
		"a cap that is below": {Cap: -1, Count: -3, Buf: c.Buf},
	} {
		put(t, h, none, x)
		w, e := Take(h, none)
		if w != 0 || e != api.ErrNone || Put(h, none, 2) != api.ErrRoom || len(All(h, none)) != 0 {
			t.Errorf("P12.1: Buf leads to %s: %d, %d", name, w, e)
		}
		if now, _ := view.Chan(h, none); now.Count != x.Count {
			t.Errorf("R4: Buf leads to %s: %+v", name, now)
		}
	}
}

func TestErrors(t *testing.T) {
	h := made(t)
	box, _ := h.Alloc(api.KBox, 2)
	for h, want := range map[*heap.Heap]api.Errno{h: api.ErrKind, nil: api.ErrNil} {
		w, e := Take(h, box)
		if w != 0 || e != want || Put(h, box, 1) != want || len(All(h, box)) != 0 {
			t.Errorf("P12.1: view's error: %d, %d; want %d", w, e, want)
		}
	}
}
