package chanword

import (
	"testing"

	"dormouse/api"
	"dormouse/heap"
	"dormouse/value"
	"dormouse/view"
)

func TestSee(t *testing.T) {
	h, _ := heap.New(4)
	ch, _ := h.Alloc(api.KChan, 9)
	box, _ := h.Alloc(api.KBox, 2)
	if ch != 0 {
		t.Fatal("the channel is to stand at the place 0")
	}
	for w, want := range map[int]any{
		value.Int(0):      Nothing{},
		value.Int(1):      Stray{},
		value.Int(ch):     Nothing{},
		value.Ptr(box):    Stray{},
		value.Ptr(ch + 1): Stray{},
		value.Ptr(-1):     Stray{},
		value.Int(-8):     Stray{},
	} {
		if got := See(h, w); got != want {
			t.Errorf("P15.1: the word %d: %#v; want %#v", w, got, want)
		}
		if got := See(nil, w); got != (Stray{}) {
			t.Errorf("P15.1: the word %d of no heap: %#v", w, got)
		}
	}
	for _, closed := range []int{0, 1, -1, 7} {
		c, _ := view.Chan(h, ch)
		c.Closed = closed
		view.PutChan(h, ch, c)
		got, ok := See(h, value.Ptr(ch)).(Channel)
		if !ok || got.At != ch || got.Chan != c || got.Closed() != (closed != 0) {
			t.Errorf("P15.1: the channel: %+v, %v", got, ok)
		}
	}
}
