package span

import (
	"testing"

	"dormouse/api"
)

func made(t *testing.T, n int) *Spans {
	t.Helper()
	s, e := New(n)
	if e != api.OK || s == nil {
		t.Fatalf("P6.1: New(%d): %d", n, e)
	}
	return s
}

func wantAlloc(t *testing.T, s *Spans, class, span, slot int) {
	t.Helper()
	if i, j, ok := s.Alloc(class); i != span || j != slot || !ok {
		t.Errorf("P6.1: Alloc(%d) = %d, %d, %v; want %d, %d", class, i, j, ok, span, slot)
	}
}

func wantNone(t *testing.T, s *Spans, class int) {
	t.Helper()
	if i, j, ok := s.Alloc(class); i != 0 || j != 0 || ok {
		t.Errorf("P6.1: Alloc(%d) = %d, %d, %v; want none", class, i, j, ok)
	}
}

func TestNew(t *testing.T) {
	for _, n := range []int{api.MinSpans, 3, api.MaxSpans} {
		s := made(t, n)
		if s.Len() != n || s.Words() != 0 || s.Class(0) != -1 || s.Class(n-1) != -1 || s.Used(0, 0) {
			t.Errorf("P6.1: New(%d): %d spans, %d words", n, s.Len(), s.Words())
		}
	}
	for _, n := range []int{0, -1, api.MinSpans - 1, api.MaxSpans + 1, 1<<63 - 1, -1 << 63} {
		if s, e := New(n); s != nil || e != api.ErrArg {
			t.Errorf("P6.1: New(%d): %v, %d; want ErrArg", n, s, e)
		}
	}
}

func TestAllocInOrder(t *testing.T) {
	s := made(t, 3)
	wantAlloc(t, s, 2, 0, 0)
	wantAlloc(t, s, 0, 1, 0)
	wantAlloc(t, s, 2, 0, 1)
	wantAlloc(t, s, 0, 1, 1)
	wantAlloc(t, s, 2, 2, 0)
	wantNone(t, s, 3)
	wantNone(t, s, 1)
	for slot := 2; slot < 8; slot++ {
		wantAlloc(t, s, 0, 1, slot)
	}
	wantNone(t, s, 0)
	wantAlloc(t, s, 2, 2, 1)
	wantNone(t, s, 2)
	if s.Words() != 3*api.SpanWords {
		t.Errorf("P6.1: all is used: %d words", s.Words())
	}
	for _, class := range []int{-1, 4, 1 << 40} {
		wantNone(t, s, class)
		wantNone(t, made(t, 2), class)
	}
}

func TestFree(t *testing.T) {
	s := made(t, 2)
	for range 3 {
		s.Alloc(1)
	}
	if !s.Free(0, 1) || s.Used(0, 1) || !s.Used(0, 0) || !s.Used(0, 2) || s.Class(0) != 1 || s.Words() != 16 {
		t.Errorf("P6.1: one of three is freed: class %d, %d words", s.Class(0), s.Words())
	}
	if s.Free(0, 1) || s.Free(0, 3) {
		t.Error("P6.1: what is not used is freed")
	}
	wantAlloc(t, s, 1, 0, 1)
	for slot := range 3 {
		if s.Class(0) != 1 || !s.Free(0, slot) {
			t.Errorf("P6.1: slot %d is not freed", slot)
		}
	}
	if s.Class(0) != -1 || s.Words() != 0 {
		t.Errorf("P6.1: the last one is freed: class %d, %d words", s.Class(0), s.Words())
	}
	wantAlloc(t, s, 3, 0, 0)
	if s.Class(0) != 3 || s.Words() != 32 {
		t.Errorf("P6.1: the span has a class again: %d, %d words", s.Class(0), s.Words())
	}
}

func TestSpanOfAnotherClassIsNotTaken(t *testing.T) {
	s := made(t, 2)
	wantAlloc(t, s, 0, 0, 0)
	wantAlloc(t, s, 1, 1, 0)
	s.Free(0, 0)
	wantAlloc(t, s, 1, 1, 1)
	wantAlloc(t, s, 0, 0, 0)
}

func TestWrongPlaces(t *testing.T) {
	s := made(t, 2)
	s.Alloc(0)
	for _, p := range [][2]int{{-1, 0}, {2, 0}, {0, -1}, {0, 8}, {1, 0}, {1 << 62, 0}, {0, -1 << 63}} {
		if s.Used(p[0], p[1]) || s.Free(p[0], p[1]) {
			t.Errorf("P6.1: %v is used", p)
		}
	}
	for _, span := range []int{-1, 2, 1 << 62, -1 << 63} {
		if s.Class(span) != -1 {
			t.Errorf("P6.1: Class(%d) = %d", span, s.Class(span))
		}
	}
	if !s.Used(0, 0) || s.Words() != 4 {
		t.Errorf("P6.1: something was turned: %d words", s.Words())
	}
}

func TestNilAndEmpty(t *testing.T) {
	for _, s := range []*Spans{nil, {}} {
		wantNone(t, s, 0)
		if s.Free(0, 0) || s.Class(0) != -1 || s.Used(0, 0) || s.Words() != 0 || s.Len() != 0 {
			t.Error("P6.1: nil tells something")
		}
	}
}
