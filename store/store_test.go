package store

import (
	"slices"
	"testing"

	"dormouse/api"
	"dormouse/heap"
	"dormouse/value"
)

func config(x [3]int) api.Config { return api.Config{Spans: x[0], Start: x[1], Assist: x[2]} }

func made(t *testing.T, spans, start, assist int) *Store {
	t.Helper()
	s, e := New(config([3]int{spans, start, assist}))
	if e != api.OK || s == nil {
		t.Fatalf("P21.1: New: %d", e)
	}
	return s
}

func boxes(n int) []api.Need {
	var l []api.Need
	for range n {
		l = append(l, api.Need{Kind: api.KBox})
	}
	return l
}

func alloc(t *testing.T, s *Store, l []api.Need, roots ...int) []int {
	t.Helper()
	places, gone, e := s.Alloc(l, roots)
	if e != api.OK || len(places) != len(l) || len(gone) != 0 {
		t.Fatalf("P21.1: Alloc: %v, %v, %d", places, gone, e)
	}
	return places
}

func placesOf(gone []api.Gone) []int {
	var l []int
	for _, g := range gone {
		l = append(l, g.At)
	}
	return l
}

func TestNew(t *testing.T) {
	for _, x := range [][3]int{{2, 1, 0}, {128, 100, 8}} {
		c := config(x)
		s, e := New(c)
		if e != api.OK || s.Heap().Arena().Words() != 32*c.Spans || s.Heap().Phase() != api.Idle {
			t.Errorf("P21.1: New(%v): %d", c, e)
		}
	}
	for _, x := range [][3]int{{}, {1, 50, 1}, {129, 50, 1}, {4, 0, 1}, {4, 101, 1}, {4, -1, 1}, {4, 50, -1}, {4, 50, 9}} {
		c := config(x)
		if s, e := New(c); s != nil || e != api.ErrArg {
			t.Errorf("P21.1: New(%v): %v, %d", c, s, e)
		}
	}
}

func TestCollectGoesStepByStep(t *testing.T) {
	s := made(t, 2, 100, 0)
	l := alloc(t, s, boxes(3))
	for i, phase := range []int{api.Mark, api.Mark, api.Sweep, api.Sweep, api.Idle} {
		gone := s.Collect([]int{l[1]})
		if s.Heap().Phase() != phase {
			t.Errorf("P21.1: phase %d behind the step %d; want %d", s.Heap().Phase(), i, phase)
		}
		if i == 3 && !slices.Equal(placesOf(gone), []int{l[0], l[2]}) || i != 3 && len(gone) != 0 {
			t.Errorf("P21.1: the step %d told %v", i, gone)
		}
	}
	if s.Heap().Cycles() != 1 {
		t.Errorf("P21.1: %d cycles", s.Heap().Cycles())
	}
}

func TestStart(t *testing.T) {
	for _, x := range []struct{ start, boxes, phase int }{{50, 7, api.Idle}, {50, 8, api.Mark}, {51, 8, api.Idle}, {100, 15, api.Idle}, {1, 0, api.Idle}, {1, 1, api.Mark}} {
		s := made(t, 2, x.start, 0)
		s.Alloc(boxes(x.boxes), nil)
		root := 0
		alloc(t, s, boxes(1), root)
		if s.Heap().Phase() != x.phase {
			t.Errorf("P21.1: Start %d, %d boxes of 16: phase %d; want %d", x.start, x.boxes, s.Heap().Phase(), x.phase)
		}
		if x.phase == api.Mark && s.Heap().Colour(root) != api.Grey {
			t.Errorf("P21.1: the roots are not shaded: %d", s.Heap().Colour(root))
		}
	}
}

func TestNothingStartsTwice(t *testing.T) {
	s := made(t, 2, 1, 0)
	l := alloc(t, s, boxes(2))
	s.Collect([]int{l[0]})
	s.Collect(nil)
	alloc(t, s, boxes(1), l[1])
	if s.Heap().Colour(l[1]) != api.White || s.Heap().Phase() != api.Mark {
		t.Errorf("P21.1: a cycle begins while one goes on: %d", s.Heap().Colour(l[1]))
	}
}

// Assist steps are done behind what is allotted: 4 words of a box, 8 of a sudog.
func TestAssist(t *testing.T) {
	for _, x := range []struct {
		assist int
		l      []api.Need
		steps  int
	}{{0, boxes(1), 0}, {1, boxes(1), 4}, {2, boxes(1), 8}, {1, []api.Need{{Kind: api.KSudog}, {Kind: api.KBuf, N: 3}}, 12}, {1, []api.Need{{Kind: api.KGor}}, 16}, {8, nil, 0}} {
		s := made(t, 16, 20, x.assist)
		first := alloc(t, s, boxes(30))
		s.Collect(first)
		alloc(t, s, x.l)
		black := 0
		for _, at := range first {
			if s.Heap().Colour(at) == api.Black {
				black++
			}
		}
		if black != x.steps {
			t.Errorf("P21.1: Assist %d of %v: %d steps; want %d", x.assist, x.l, black, x.steps)
		}
	}
	s := made(t, 2, 50, 8)
	l := alloc(t, s, boxes(8))
	places, gone, e := s.Alloc(boxes(1), l[:1])
	if len(places) != 1 || e != api.OK || !slices.Equal(placesOf(gone), l[1:]) || s.Heap().Phase() != api.Idle {
		t.Errorf("P21.1: Assist beyond the end: %v, %v, %d", places, gone, e)
	}
}

func TestRoomIsMade(t *testing.T) {
	s := made(t, 2, 100, 0)
	l := alloc(t, s, boxes(14))
	roots := slices.Clone(l[:12])
	places, gone, e := s.Alloc(boxes(4), roots)
	if e != api.OK || !slices.Equal(placesOf(gone), l[12:]) || !slices.Equal(places, []int{48, 52, 56, 60}) {
		t.Errorf("P21.1: room is made: %v, %v, %d", places, placesOf(gone), e)
	}
	if s.Heap().Cycles() != 1 || s.Heap().Phase() != api.Idle || s.Heap().Colour(places[0]) != api.White || !slices.Equal(roots, l[:12]) {
		t.Errorf("P21.1: %d cycles, phase %d", s.Heap().Cycles(), s.Heap().Phase())
	}
	before := s.Heap().Arena().Objects()
	places, gone, e = s.Alloc(boxes(1), before)
	if e != api.ErrRoom || len(places) != 0 || len(gone) != 0 || !slices.Equal(s.Heap().Arena().Objects(), before) {
		t.Errorf("P21.1: no room: %v, %v, %d", places, gone, e)
	}
	s.Heap().Store(before[3], 1, value.Int(1))
	places, gone, e = s.Alloc(boxes(3), before[4:])
	if e != api.OK && len(gone) == 0 || len(places) != 3 || !gone[0].Kept || gone[0].At != before[3] || !slices.Equal(placesOf(gone[1:]), before[:3]) {
		t.Errorf("P21.1: what is told: %v, %v, %d", places, gone, e)
	}
}

func TestErrRoomTells(t *testing.T) {
	s := made(t, 2, 100, 0)
	l := alloc(t, s, boxes(16))
	places, gone, e := s.Alloc(boxes(3), l[:14])
	if e != api.ErrRoom || len(places) != 0 || !slices.Equal(placesOf(gone), l[14:]) {
		t.Errorf("P21.1: ErrRoom: %v, %v, %d", places, placesOf(gone), e)
	}
	if objects := s.Heap().Arena().Objects(); !slices.Equal(objects, l[:14]) {
		t.Errorf("P21.1: those that had room are there: %v", objects)
	}
}

// A cycle that goes on is ended first; only the next one takes away what was new or reached in it.
func TestTwoCycles(t *testing.T) {
	s := made(t, 2, 100, 0)
	l := alloc(t, s, boxes(16))
	h := s.Heap()
	h.Store(l[5], 1, value.Int(3))
	s.Collect(l[:5])
	places, gone, e := s.Alloc(boxes(12), l[:1])
	if e != api.OK || h.Cycles() != 2 || len(places) != 12 {
		t.Fatalf("P21.1: two cycles: %v, %d, %d", places, h.Cycles(), e)
	}
	if !gone[0].Kept || gone[0].At != l[5] || !slices.Equal(placesOf(gone[1:]), append(slices.Clone(l[6:]), l[1:5]...)) {
		t.Errorf("P21.1: two cycles told %v", placesOf(gone))
	}
	if h.Arena().Kind(l[5]) != api.KBox || h.Colour(l[5]) != api.Black {
		t.Error("P21.1: a box that was kept is no root of the next cycle")
	}
}

func TestRefuses(t *testing.T) {
	s := made(t, 2, 1, 8)
	for _, l := range [][]api.Need{{{}}, {{Kind: api.KBox}, {Kind: 7}}, {{Kind: api.KBuf, N: 4}}, {{Kind: api.KBuf, N: -1}}} {
		if places, gone, e := s.Alloc(l, nil); len(places) != 0 || len(gone) != 0 || e != api.ErrArg {
			t.Errorf("P21.1: Alloc(%v): %v, %d", l, places, e)
		}
	}
	if s.Heap().Arena().Used() != 0 || s.Heap().Phase() != api.Idle {
		t.Error("R4: something was done")
	}
	if places, gone, e := s.Alloc(nil, nil); len(places) != 0 || len(gone) != 0 || e != api.OK {
		t.Errorf("P21.1: Alloc of nothing: %v, %d", places, e)
	}
}

func TestNil(t *testing.T) {
	for _, s := range []*Store{nil, {}} {
		places, gone, e := s.Alloc(boxes(1), nil)
		if len(places) != 0 || len(gone) != 0 || e != api.ErrNil || len(s.Collect(nil)) != 0 || s.Heap() != (*heap.Heap)(nil) {
			t.Errorf("P21.1: nil: %v, %d", places, e)
		}
	}
}
