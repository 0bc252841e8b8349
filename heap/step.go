package heap

import "dormouse/api"

// finalWord is the word of a box where its finaliser stands.
const finalWord = 1

// Kinds that the collector tells apart.
type (
	box   struct{ at, final int }
	other struct{}
)

// Step does one step of the cycle that goes on.
func (h *Heap) Step() []api.Gone {
	switch h.Phase() {
	case api.Mark:
		return h.mark()
	case api.Sweep:
		return h.sweep()
	}
	return nil
}

// mark looks for finalisers only when nothing is grey: what a box holds is looked at with the box, not ahead of it.
func (h *Heap) mark() []api.Gone {
	if at, ok := h.nextGrey(); ok {
		h.scan(at)
		return nil
	}
	if b, ok := h.nextFinal(); ok {
		return []api.Gone{h.keep(b)}
	}
	h.phase, h.span = api.Sweep, 0
	return nil
}

// nextGrey goes through all objects where the list could not hold all that is grey.
func (h *Heap) nextGrey() (int, bool) {
	if at, ok := h.grey.Pop(); ok {
		return at, true
	}
	if !h.grey.Over() {
		return 0, false
	}
	for _, at := range h.arena.Objects() {
		if h.is(at, api.Grey) {
			return at, true
		}
	}
	h.grey.Settle()
	return 0, false
}

func (h *Heap) scan(at int) {
	for _, w := range h.words(at) {
		h.shadeWord(w)
	}
	h.colours[at] = api.Black
}

// nextFinal tells the first box that has a finaliser, and that nobody has reached.
func (h *Heap) nextFinal() (box, bool) {
	for _, at := range h.arena.Objects() {
		b, ok := h.look(at).(box)
		if ok && b.final != 0 && h.is(at, api.White) {
			return b, true
		}
	}
	return box{}, false
}

// keep takes the finaliser out of the box, so that it is not due again, and lets all that the box holds live on.
func (h *Heap) keep(b box) api.Gone {
	words := h.words(b.at)
	h.Store(b.at, finalWord, 0)
	h.Shade(b.at)
	return api.Gone{Kind: api.KBox, At: b.at, Words: words, Kept: true}
}

// sweep frees what is White in one span.
func (h *Heap) sweep() []api.Gone {
	var gone []api.Gone
	from, behind := h.span*api.SpanWords, (h.span+1)*api.SpanWords
	for at := from; at < behind; at++ {
		if h.is(at, api.White) {
			gone = append(gone, api.Gone{Kind: h.arena.Kind(at), At: at, Words: h.words(at)})
			h.arena.Free(at)
		}
	}
	h.span++
	if behind >= h.arena.Words() {
		h.phase = api.Idle
		h.cycles++
	}
	return gone
}

func (h *Heap) look(at int) any {
	if h.arena.Kind(at) == api.KBox {
		final, _ := h.arena.Load(at, finalWord)
		return box{at, final}
	}
	return other{}
}
