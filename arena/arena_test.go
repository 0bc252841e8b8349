package arena

import (
	"slices"
	"testing"

	"dormouse/api"
)

func made(t *testing.T, spans int) *Arena {
	t.Helper()
	a, e := New(spans)
	if e != api.OK || a == nil {
		t.Fatalf("P7.1: New(%d): %d", spans, e)
	}
	return a
}

func wantAlloc(t *testing.T, a *Arena, kind, n, want int) {
	t.Helper()
	at, e := a.Alloc(kind, n)
	if at != want || e != api.OK || a.Kind(at) != kind || a.Len(at) != n {
		t.Errorf("P7.1: Alloc(%d, %d) = %d, %d (kind %d, length %d); want %d", kind, n, at, e, a.Kind(at), a.Len(at), want)
	}
}

func TestNew(t *testing.T) {
	a := made(t, 2)
	if a.Words() != 64 || a.Used() != 0 || len(a.Objects()) != 0 {
		t.Errorf("P7.1: a new one: %d words, %d used", a.Words(), a.Used())
	}
	for _, n := range []int{0, 1, 129, -1, 1 << 60} {
		if a, e := New(n); a != nil || e != api.ErrArg {
			t.Errorf("P7.1: New(%d): %v, %d", n, a, e)
		}
	}
}

func TestPlaces(t *testing.T) {
	a := made(t, 3)
	wantAlloc(t, a, api.KBox, 2, 0)
	wantAlloc(t, a, api.KBuf, 0, 4)
	wantAlloc(t, a, api.KGor, 10, 32)
	wantAlloc(t, a, api.KTimer, 3, 8)
	wantAlloc(t, a, api.KChan, 15, 48)
	wantAlloc(t, a, api.KSudog, 31, 64)
	if want := []int{0, 4, 8, 32, 48, 64}; !slices.Equal(a.Objects(), want) || a.Used() != 12+32+32 || a.Words() != 96 {
		t.Errorf("P7.1: Objects: %v, %d used of %d", a.Objects(), a.Used(), a.Words())
	}
	if at, e := a.Alloc(api.KBox, 4); at != 0 || e != api.ErrRoom {
		t.Errorf("P7.1: no room: %d, %d", at, e)
	}
	if e := a.Free(64); e != api.OK || a.Kind(64) != 0 || a.Len(64) != 0 {
		t.Errorf("P7.1: Free: %d, kind %d", e, a.Kind(64))
	}
	wantAlloc(t, a, api.KBox, 7, 64)
	wantAlloc(t, a, api.KBox, 7, 72)
}

func TestAllocRefuses(t *testing.T) {
	a := made(t, 2)
	for _, c := range [][2]int{{0, 1}, {7, 1}, {-1, 1}, {17, 1}, {api.KBox, -1}, {api.KBox, 32}, {api.KBox, 1<<63 - 1}, {0, 40}} {
		if at, e := a.Alloc(c[0], c[1]); at != 0 || e != api.ErrArg {
			t.Errorf("P7.1: Alloc%v: %d, %d; want ErrArg", c, at, e)
		}
	}
	a.Alloc(api.KBox, 31)
	a.Alloc(api.KBox, 31)
	if _, e := a.Alloc(0, 31); e != api.ErrArg {
		t.Errorf("P7.1: ErrArg is ahead of ErrRoom: %d", e)
	}
}

func TestWordsOfObjects(t *testing.T) {
	a := made(t, 2)
	at, _ := a.Alloc(api.KBox, 3)
	for i := range 3 {
		if w, e := a.Load(at, i); w != 0 || e != api.OK {
			t.Errorf("P7.1: a new word: %d, %d", w, e)
		}
		if e := a.Store(at, i, -7-i); e != api.OK {
			t.Errorf("P7.1: Store: %d", e)
		}
	}
	for i := range 3 {
		if w, e := a.Load(at, i); w != -7-i || e != api.OK {
			t.Errorf("P7.1: word %d: %d, %d", i, w, e)
		}
	}
	a.Free(at)
	again, _ := a.Alloc(api.KTimer, 2)
	if w, e := a.Load(again, 1); again != at || w != 0 || e != api.OK {
		t.Errorf("P7.1: an object where one was: %d, %d, %d", again, w, e)
	}
	if _, e := a.Load(again, 2); e != api.ErrArg {
		t.Errorf("P7.1: behind its length: %d", e)
	}
}

func TestWrongPlaces(t *testing.T) {
	a := made(t, 2)
	at, _ := a.Alloc(api.KGor, 10)
	for _, p := range []int{at + 1, at + 4, at + 16, 32, 63, 64, -1, -16, 1 << 62, -1 << 63} {
		_, load := a.Load(p, 0)
		if a.Kind(p) != 0 || a.Len(p) != 0 || load != api.ErrNone || a.Store(p, 99, 1) != api.ErrNone || a.Free(p) != api.ErrNone {
			t.Errorf("P7.1: there is something at %d", p)
		}
	}
	for _, i := range []int{-1, 10, 1 << 62, -1 << 63} {
		if w, e := a.Load(at, i); w != 0 || e != api.ErrArg || a.Store(at, i, 1) != api.ErrArg {
			t.Errorf("P7.1: there is a word %d: %d, %d", i, w, e)
		}
	}
	a.Free(at)
	if _, e := a.Load(at, 0); e != api.ErrNone || a.Free(at) != api.ErrNone || a.Used() != 0 {
		t.Errorf("P7.1: what is freed is there: %d", e)
	}
}

func TestObjectsAreNewMemory(t *testing.T) {
	a := made(t, 2)
	a.Alloc(api.KBox, 2)
	a.Objects()[0] = 99
	if !slices.Equal(a.Objects(), []int{0}) {
		t.Errorf("R3: %v", a.Objects())
	}
}

func TestNilAndEmpty(t *testing.T) {
	var a *Arena
	at, alloc := a.Alloc(api.KBox, 2)
	w, load := a.Load(0, 0)
	if at != 0 || w != 0 || alloc != api.ErrNil || load != api.ErrNil || a.Store(0, 0, 0) != api.ErrNil || a.Free(0) != api.ErrNil {
		t.Error("P7.1: nil answers no ErrNil")
	}
	for _, a := range []*Arena{nil, {}} {
		if a.Kind(0) != 0 || a.Len(0) != 0 || len(a.Objects()) != 0 || a.Used() != 0 || a.Words() != 0 {
			t.Error("P7.1: nil tells something")
		}
	}
	if _, e := new(Arena).Alloc(api.KBox, 2); e != api.ErrRoom {
		t.Errorf("P7.1: Alloc where there are no spans: %d", e)
	}
}
