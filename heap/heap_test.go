package heap

import (
	"math/rand"
	"reflect"
	"slices"
	"testing"

	"dormouse/api"
	"dormouse/value"
)

func made(t *testing.T, spans int) *Heap {
	t.Helper()
	h, e := New(spans)
	if e != api.OK || h == nil {
		t.Fatalf("P9.1: New(%d): %d", spans, e)
	}
	return h
}

func alloc(t *testing.T, h *Heap, kind, n int) int {
	t.Helper()
	at, e := h.Alloc(kind, n)
	if e != api.OK {
		t.Fatalf("P9.1: Alloc(%d, %d): %d", kind, n, e)
	}
	return at
}

func wantColours(t *testing.T, h *Heap, want map[int]int) {
	t.Helper()
	for at, colour := range want {
		if h.Colour(at) != colour {
			t.Errorf("P9: the colour of %d is %d; want %d", at, h.Colour(at), colour)
		}
	}
}

// finish steps till the cycle has come to its end, and tells all that was told.
func finish(t *testing.T, h *Heap) []api.Gone {
	t.Helper()
	var l []api.Gone
	for range 100_000 {
		if h.Phase() == api.Idle {
			return l
		}
		l = append(l, h.Step()...)
	}
	t.Fatal("P9.2: a cycle has no end")
	return nil
}

func TestNew(t *testing.T) {
	h := made(t, 2)
	if h.Phase() != api.Idle || h.Cycles() != 0 || h.Arena().Words() != 64 || len(h.Step()) != 0 {
		t.Errorf("P9.1: a new one: phase %d, %d cycles", h.Phase(), h.Cycles())
	}
	for _, n := range []int{1, 129, -1} {
		if h, e := New(n); h != nil || e != api.ErrArg {
			t.Errorf("P9.1: New(%d): %v, %d", n, h, e)
		}
	}
}

func TestErrorsAreTheArenas(t *testing.T) {
	h := made(t, 2)
	at := alloc(t, h, api.KBox, 2)
	if _, e := h.Alloc(0, 2); e != api.ErrArg {
		t.Errorf("P9.1: Alloc of no kind: %d", e)
	}
	if _, e := h.Load(at, 2); e != api.ErrArg || h.Store(at, -1, 0) != api.ErrArg || h.Store(at+1, 0, 0) != api.ErrNone {
		t.Errorf("P9.1: Load, Store: %d", e)
	}
	if e := h.Store(at, 1, 7); e != api.OK {
		t.Errorf("P9.1: Store: %d", e)
	}
	if w, e := h.Load(at, 1); w != 7 || e != api.OK {
		t.Errorf("P9.1: Load: %d, %d", w, e)
	}
	for range 2 {
		h.Alloc(api.KBox, 31)
	}
	if at, e := h.Alloc(api.KBox, 31); at != 0 || e != api.ErrRoom {
		t.Errorf("P9.1: no room: %d, %d", at, e)
	}
}

func TestBeginShadesRoots(t *testing.T) {
	h := made(t, 2)
	a, b, c := alloc(t, h, api.KBox, 2), alloc(t, h, api.KBox, 2), alloc(t, h, api.KBox, 2)
	h.Shade(a)
	wantColours(t, h, map[int]int{a: api.White})
	if e := h.Begin([]int{c, 1, -1, 1 << 40, a, c}); e != api.OK || h.Phase() != api.Mark {
		t.Errorf("P9.1: Begin: %d, phase %d", e, h.Phase())
	}
	wantColours(t, h, map[int]int{a: api.Grey, b: api.White, c: api.Grey, 1: api.White, -1: api.White})
	if e := h.Begin(nil); e != api.ErrState {
		t.Errorf("P9.1: Begin again: %d", e)
	}
	if l := h.Step(); len(l) != 0 {
		t.Errorf("P9.2: told: %v", l)
	}
	wantColours(t, h, map[int]int{a: api.Black, c: api.Grey})
	h.Step()
	wantColours(t, h, map[int]int{b: api.White, c: api.Black})
	if h.Phase() != api.Mark {
		t.Error("P9.2: Sweep comes in a Step of its own")
	}
	h.Step()
	if h.Phase() != api.Sweep || h.Begin(nil) != api.ErrState {
		t.Errorf("P9.2: phase %d; want Sweep", h.Phase())
	}
}

func TestSweepSpanBySpan(t *testing.T) {
	h := made(t, 3)
	a, b := alloc(t, h, api.KBox, 2), alloc(t, h, api.KTimer, 2)
	c, d := alloc(t, h, api.KGor, 10), alloc(t, h, api.KBuf, 0)
	h.Store(b, 1, value.Ptr(c))
	h.Begin([]int{a})
	h.Step()
	h.Step()
	want := []api.Gone{{Kind: api.KTimer, At: b, Words: []int{0, value.Ptr(c)}}, {Kind: api.KBuf, At: d}}
	got := h.Step()
	if len(got) != 2 || !reflect.DeepEqual(got[0], want[0]) || got[1].Kind != api.KBuf || got[1].At != d || len(got[1].Words) != 0 || h.Phase() != api.Sweep {
		t.Errorf("P9.2: the first span: %+v, phase %d", got, h.Phase())
	}
	if got := h.Step(); len(got) != 1 || got[0].At != c || len(got[0].Words) != 10 || h.Phase() != api.Sweep {
		t.Errorf("P9.2: the second span: %+v, phase %d", got, h.Phase())
	}
	if got := h.Step(); len(got) != 0 || h.Phase() != api.Idle || h.Cycles() != 1 {
		t.Errorf("P9.2: the third span: %+v, phase %d, %d cycles", got, h.Phase(), h.Cycles())
	}
	if !slices.Equal(h.Arena().Objects(), []int{a}) || h.Colour(a) != api.Black || len(h.Step()) != 0 || h.Cycles() != 1 {
		t.Errorf("P9.2: what is left: %v", h.Arena().Objects())
	}
	h.Begin(nil)
	wantColours(t, h, map[int]int{a: api.White})
	finish(t, h)
	if len(h.Arena().Objects()) != 0 || h.Cycles() != 2 {
		t.Errorf("P9.2: the next cycle: %v", h.Arena().Objects())
	}
}

func TestColourOfNewOnes(t *testing.T) {
	h := made(t, 2)
	idle := alloc(t, h, api.KBox, 2)
	h.Begin(nil)
	mark := alloc(t, h, api.KBox, 2)
	wantColours(t, h, map[int]int{idle: api.White, mark: api.Black})
	h.Step()
	sweep := alloc(t, h, api.KGor, 10)
	wantColours(t, h, map[int]int{sweep: api.Black})
	finish(t, h)
	if !slices.Equal(h.Arena().Objects(), []int{mark, sweep}) {
		t.Errorf("P9.1: what came while the cycle went on is left: %v", h.Arena().Objects())
	}
	again := alloc(t, h, api.KBox, 2)
	if again != idle || h.Colour(again) != api.White || h.Colour(again+1) != api.White {
		t.Errorf("P9.1: a new one at %d: %d", again, h.Colour(again))
	}
}

// What stood at a place before plays no part.
func TestColourWhereOneWas(t *testing.T) {
	h := made(t, 2)
	h.Begin(nil)
	at := alloc(t, h, api.KBox, 2)
	h.Arena().Free(at)
	wantColours(t, h, map[int]int{at: api.White})
	finish(t, h)
	if again := alloc(t, h, api.KBox, 2); again != at || h.Colour(again) != api.White {
		t.Errorf("P9.1: a new one at %d is %d", again, h.Colour(again))
	}
}

func TestStoreShades(t *testing.T) {
	h := made(t, 2)
	a, b, c := alloc(t, h, api.KBox, 2), alloc(t, h, api.KBox, 2), alloc(t, h, api.KBox, 2)
	h.Store(a, 0, value.Ptr(b))
	wantColours(t, h, map[int]int{b: api.White})
	h.Begin([]int{a})
	h.Store(a, 0, value.Int(0))
	h.Step()
	wantColours(t, h, map[int]int{a: api.Black, b: api.White})
	h.Store(a, 9, value.Ptr(b))
	h.Store(a, 0, value.Int(b))
	h.Store(a, 0, value.Ptr(1<<40))
	h.Store(a, 0, value.Ptr(-9))
	wantColours(t, h, map[int]int{b: api.White})
	h.Store(a, 0, value.Ptr(b))
	h.Shade(c)
	h.Shade(c + 1)
	wantColours(t, h, map[int]int{b: api.Grey, c: api.Grey})
	h.Step()
	h.Step()
	wantColours(t, h, map[int]int{b: api.Black, c: api.Black})
	h.Store(a, 0, value.Ptr(b))
	wantColours(t, h, map[int]int{b: api.Black})
}

func TestPointersInOrder(t *testing.T) {
	h := made(t, 3)
	a := alloc(t, h, api.KBuf, 3)
	b, c := alloc(t, h, api.KBox, 2), alloc(t, h, api.KBox, 2)
	h.Store(a, 0, value.Ptr(c))
	h.Store(a, 1, value.Int(c))
	h.Store(a, 2, value.Ptr(b))
	h.Begin([]int{a})
	h.Step()
	wantColours(t, h, map[int]int{a: api.Black, b: api.Grey, c: api.Grey})
	h.Step()
	wantColours(t, h, map[int]int{b: api.Black, c: api.Grey})
}

func TestOverIsLookedThrough(t *testing.T) {
	h := made(t, 3)
	var roots []int
	for range api.MaxGrey + 3 {
		roots = append(roots, alloc(t, h, api.KBox, 2))
	}
	slices.Reverse(roots)
	h.Begin(roots)
	for i := api.MaxGrey - 1; i >= 0; i-- {
		h.Step()
		wantColours(t, h, map[int]int{roots[i]: api.Black})
	}
	for i := len(roots) - 1; i >= api.MaxGrey; i-- {
		wantColours(t, h, map[int]int{roots[i]: api.Grey})
		h.Step()
		wantColours(t, h, map[int]int{roots[i]: api.Black})
	}
	h.Step()
	if h.Phase() != api.Sweep {
		t.Errorf("P9.2: phase %d behind all that is grey", h.Phase())
	}
	if gone := finish(t, h); len(gone) != 0 {
		t.Errorf("P9.2: %v is gone", gone)
	}
}

func TestFinalisers(t *testing.T) {
	h := made(t, 4)
	held := alloc(t, h, api.KTimer, 2)
	first, second, third := alloc(t, h, api.KBox, 2), alloc(t, h, api.KBox, 2), alloc(t, h, api.KBox, 2)
	reached := alloc(t, h, api.KBox, 2)
	timer := alloc(t, h, api.KTimer, 2)
	h.Store(second, 0, value.Ptr(held))
	for _, at := range []int{second, third, reached, timer} {
		h.Store(at, 1, value.Int(4))
	}
	h.Store(second, 0, value.Ptr(third))
	h.Store(third, 0, value.Ptr(held))
	h.Begin([]int{reached})
	h.Step()
	want := []api.Gone{{Kind: api.KBox, At: second, Words: []int{value.Ptr(third), value.Int(4)}, Kept: true}}
	if got := h.Step(); !reflect.DeepEqual(got, want) || h.Phase() != api.Mark {
		t.Errorf("P9.2: Kept: %+v; want %+v", got, want)
	}
	wantColours(t, h, map[int]int{second: api.Grey, third: api.White})
	if w, _ := h.Load(second, 1); w != 0 {
		t.Errorf("P9.2: the finaliser is there yet: %d", w)
	}
	gone := finish(t, h)
	if len(gone) != 2 || gone[0].At != first || gone[1].At != timer || gone[0].Kept || gone[1].Kept {
		t.Errorf("P9.2: gone: %+v", gone)
	}
	h.Begin(nil)
	gone = finish(t, h)
	if len(gone) != 3 || !gone[0].Kept || gone[0].At != third || !gone[1].Kept || gone[1].At != reached || gone[2].Kept || gone[2].At != second {
		t.Errorf("P9.2: gone in the next cycle: %+v", gone)
	}
	h.Begin(nil)
	gone = finish(t, h)
	if len(gone) != 3 || gone[0].Kept || gone[0].At != held || gone[1].At != third || gone[2].At != reached {
		t.Errorf("P9.2: gone in the last cycle: %+v", gone)
	}
}

func TestToldIsNewMemory(t *testing.T) {
	h := made(t, 2)
	at := alloc(t, h, api.KBox, 2)
	h.Store(at, 1, 2)
	h.Begin(nil)
	h.Step()[0].Words[0] = 99
	if w, _ := h.Load(at, 0); w != 0 {
		t.Errorf("R3: %d", w)
	}
}

func TestLaidByHand(t *testing.T) {
	h := made(t, 2)
	short, _ := h.Arena().Alloc(api.KBox, 1)
	h.Begin([]int{short})
	h.Arena().Free(short)
	for range 9 {
		h.Step()
	}
	if h.Phase() != api.Idle {
		t.Errorf("R1: phase %d", h.Phase())
	}
	h.Arena().Alloc(api.KBox, 1)
	h.Begin(nil)
	if gone := finish(t, h); len(gone) != 1 || gone[0].Kept {
		t.Errorf("P9.2: a box without a word 1: %+v", gone)
	}
}

func TestNil(t *testing.T) {
	for _, h := range []*Heap{nil, {}} {
		h.Shade(0)
		_, alloc := h.Alloc(api.KBox, 2)
		_, load := h.Load(0, 0)
		if alloc != api.ErrNil || load != api.ErrNil || h.Store(0, 0, 1) != api.ErrNil || h.Begin(nil) != api.ErrNil {
			t.Error("P9.1: nil answers no ErrNil")
		}
		if h.Arena() != nil || len(h.Step()) != 0 || h.Phase() != 0 || h.Colour(0) != 0 || h.Cycles() != 0 {
			t.Error("P9.1: nil tells something")
		}
	}
}

// reached tells what can be reached from the roots.
func reached(h *Heap, roots []int) []int {
	seen := map[int]bool{}
	work := slices.Clone(roots)
	for len(work) > 0 {
		at := work[0]
		work = work[1:]
		if seen[at] || h.Arena().Kind(at) == 0 {
			continue
		}
		seen[at] = true
		for _, w := range h.words(at) {
			if value.IsPtr(w) {
				work = append(work, value.At(w))
			}
		}
	}
	var l []int
	for at := range seen {
		l = append(l, at)
	}
	slices.Sort(l)
	return l
}

// TestWhileOthersGoOn turns words of reached objects at random between the steps: nothing that can be reached is lost, and in the end nothing else is left.
func TestWhileOthersGoOn(t *testing.T) {
	for seed := range int64(200) {
		r := rand.New(rand.NewSource(seed))
		h := made(t, 2+r.Intn(8))
		root := alloc(t, h, api.KBuf, 3)
		roots := []int{root}
		turn := func() {
			live := reached(h, roots)
			at := live[r.Intn(len(live))]
			if h.Arena().Len(at) == 0 {
				return
			}
			w := value.Int(r.Intn(100))
			if r.Intn(3) > 0 {
				w = value.Ptr(live[r.Intn(len(live))])
			}
			if r.Intn(3) > 0 {
				if fresh, e := h.Alloc(1+r.Intn(6), r.Intn(12)); e == api.OK {
					w = value.Ptr(fresh)
				}
			}
			i := r.Intn(h.Arena().Len(at))
			if h.Arena().Kind(at) == api.KBox && i == 1 {
				i = 0
			}
			h.Store(at, i, w)
		}
		for range 300 {
			turn()
			if r.Intn(2) == 0 {
				if h.Phase() == api.Idle {
					h.Begin(roots)
				}
				h.Step()
			}
			for _, at := range reached(h, roots) {
				for _, w := range h.words(at) {
					if value.IsPtr(w) && h.Arena().Kind(value.At(w)) == 0 {
						t.Fatalf("W3: seed %d: %d leads to nothing", seed, at)
					}
					if h.Phase() == api.Mark && h.Colour(at) == api.Black && value.IsPtr(w) && h.Colour(value.At(w)) == api.White {
						t.Fatalf("seed %d: what is Black leads to what is White", seed)
					}
				}
			}
		}
		finish(t, h)
		h.Begin(roots)
		finish(t, h)
		if want := reached(h, roots); !slices.Equal(h.Arena().Objects(), want) {
			t.Fatalf("W4: seed %d: %v is left; want %v", seed, h.Arena().Objects(), want)
		}
	}
}
