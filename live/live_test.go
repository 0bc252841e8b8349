package live

import (
	"slices"
	"testing"

	"dormouse/api"
	"dormouse/heap"
	"dormouse/value"
)

// made lays n things of three words.
func made(t *testing.T, n int) (*heap.Heap, []int) {
	t.Helper()
	h, e := heap.New(4)
	var l []int
	for range n {
		at, f := h.Alloc(api.KBuf, 3)
		if e != api.OK || f != api.OK {
			t.Fatal(e, f)
		}
		l = append(l, at)
	}
	return h, l
}

func wants(t *testing.T, name string, got []int, want ...int) {
	t.Helper()
	if !slices.Equal(got, want) {
		t.Errorf("P22.1: %s: %v; want %v", name, got, want)
	}
}

func TestReachAndLost(t *testing.T) {
	h, l := made(t, 7)
	h.Store(l[5], 0, value.Ptr(l[1]))
	h.Store(l[5], 1, value.Int(l[2]))
	h.Store(l[1], 2, value.Ptr(l[3]))
	h.Store(l[3], 0, value.Ptr(l[5]))
	h.Store(l[3], 1, value.Ptr(l[3]))
	h.Store(l[0], 1, value.Ptr(l[5]))
	h.Store(l[6], 1, value.Ptr(l[2]))
	roots := []int{l[5], l[4], l[5], -1, l[4] + 1, 1 << 40}
	wants(t, "Reach", Reach(h, roots), l[1], l[3], l[4], l[5])
	wants(t, "Lost", Lost(h, roots), l[0], l[2], l[6])
	wants(t, "Broken", Broken(h, roots))
	wants(t, "Reach of no roots", Reach(h, nil))
	wants(t, "Lost of no roots", Lost(h, nil), l...)
	if !slices.Equal(roots, []int{l[5], l[4], l[5], -1, l[4] + 1, 1 << 40}) {
		t.Errorf("R3: the roots: %v", roots)
	}
}

func TestBroken(t *testing.T) {
	h, l := made(t, 6)
	h.Store(l[4], 0, value.Ptr(l[0]))
	h.Store(l[4], 2, value.Ptr(l[1]))
	h.Store(l[1], 0, value.Ptr(l[2]+1))
	h.Store(l[0], 1, value.Ptr(-1))
	h.Store(l[5], 1, value.Ptr(1<<40))
	wants(t, "Broken", Broken(h, l[4:5]), l[0], l[1])
	wants(t, "Broken of all", Broken(h, l), l[0], l[1], l[5])
	h.Arena().Free(l[0])
	wants(t, "Broken where one was freed", Broken(h, l[4:5]), l[1], l[4])
	wants(t, "Reach where one was freed", Reach(h, l[4:5]), l[1], l[4])
	wants(t, "Lost where one was freed", Lost(h, l[4:5]), l[2], l[3], l[5])
}

func TestNoHeap(t *testing.T) {
	for _, h := range []*heap.Heap{nil, {}} {
		wants(t, "Reach of no heap", Reach(h, []int{0}))
		wants(t, "Lost of no heap", Lost(h, []int{0}))
		wants(t, "Broken of no heap", Broken(h, []int{0}))
	}
}
