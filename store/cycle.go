package store

import (
	"slices"

	"dormouse/api"
	"dormouse/heap"
)

// What is told by a step of the collector: a box that lives on for its finaliser, or what was freed.
type (
	kept  struct{ at int }
	freed struct{}
)

// makeRoom ends the cycle that goes on, and does a whole one: only that takes all away that could not be reached from the first.
func makeRoom(h *heap.Heap, roots []int) []api.Gone {
	gone := toTheEnd(h)
	h.Begin(append(slices.Clone(roots), keptOf(gone)...))
	return append(gone, toTheEnd(h)...)
}

func toTheEnd(h *heap.Heap) []api.Gone {
	var gone []api.Gone
	for h.Phase() != api.Idle {
		gone = append(gone, h.Step()...)
	}
	return gone
}

// steps does n steps, or fewer, if the cycle ends.
func steps(h *heap.Heap, n int) []api.Gone {
	var gone []api.Gone
	for range n {
		if h.Phase() != api.Idle {
			gone = append(gone, h.Step()...)
		}
	}
	return gone
}

// keptOf tells the places of the boxes that were kept: whoever asks for room does not know yet that they are due.
func keptOf(gone []api.Gone) []int {
	var places []int
	for _, g := range gone {
		if k, ok := look(g).(kept); ok {
			places = append(places, k.at)
		}
	}
	return places
}

func look(g api.Gone) any {
	if g.Kept {
		return kept{g.At}
	}
	return freed{}
}
