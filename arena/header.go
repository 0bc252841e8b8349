package arena

import (
	"dormouse/api"
	"dormouse/class"
)

// What may stand at a place: an object's header, or nothing that counts.
type (
	object  struct{ kind, length int }
	nothing struct{}
)

func (o object) header() int { return o.kind + kinds*o.length }

// look sees the word at a place as a header, if it is one: words of an object, and those of unused slots, are none.
func (a *Arena) look(at int) any {
	row, slot, ok := a.slotAt(at)
	if !ok || !a.spans.Used(row, slot) {
		return nothing{}
	}
	return object{a.words[at] % kinds, a.words[at] / kinds}
}

// slotAt tells the slot whose first word is at a place.
func (a *Arena) slotAt(at int) (int, int, bool) {
	if a == nil || at < 0 || at >= len(a.words) {
		return 0, 0, false
	}
	row, behind := at/api.SpanWords, at%api.SpanWords
	size := class.Words(a.spans.Class(row))
	if size == 0 || behind%size != 0 {
		return 0, 0, false
	}
	return row, behind / size, true
}
