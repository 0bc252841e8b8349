// Package chanword tells which channel a word stands for: chapter 15 says it, and the chapters 16 and 17 take it over.
package chanword

import (
	"dormouse/api"
	"dormouse/heap"
	"dormouse/value"
	"dormouse/view"
)

// What a word may stand for: a channel, no channel at all, or what is none.
type (
	Channel struct {
		At   int
		Chan api.Chan
	}
	Nothing struct{}
	Stray   struct{}
)

// See tells which of these w stands for.
func See(h *heap.Heap, w int) any {
	if h == nil {
		return Stray{}
	}
	if w == value.Int(0) {
		return Nothing{}
	}
	c, e := view.Chan(h, value.At(w))
	if e != api.OK {
		return Stray{}
	}
	return Channel{value.At(w), c}
}

// Closed tells whether it is closed.
func (c Channel) Closed() bool { return c.Chan.Closed != 0 }
