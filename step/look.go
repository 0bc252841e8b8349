package step

import (
	"dormouse/api"
	"dormouse/value"
	"dormouse/view"
)

// What a word may stand for.
type (
	number  int
	channel struct{ is api.Chan }
	box     struct{ at int }
	odd     struct{}
)

// sleeper is a goroutine that was taken away while it waited.
type sleeper struct{ id int }

// The words that are looked at when a thing is gone, or changed.
const (
	idWord     = 0
	statusWord = 1
	valueWord  = 0
	finalWord  = 1
)

func (w *World) look(word int) any {
	if !value.IsPtr(word) {
		return number(value.Num(word))
	}
	at := value.At(word)
	if w.heap().Arena().Kind(at) == api.KBox {
		return box{at}
	}
	if c, e := view.Chan(w.heap(), at); e == api.OK {
		return channel{c}
	}
	return odd{}
}

func isNought(found any) bool {
	n, ok := found.(number)
	return ok && n == 0
}

// lookGone sees in what the collector told only what is to be told on: sleepers, and finalisers that are due.
func lookGone(g api.Gone) any {
	if len(g.Words) < 2 {
		return odd{}
	}
	if g.Kind == api.KBox && g.Kept {
		return finaliser{g.At, value.Num(g.Words[finalWord]) - 1}
	}
	if g.Kind == api.KGor && !g.Kept && value.Num(g.Words[statusWord]) == api.Blocked {
		return sleeper{value.Num(g.Words[idWord])}
	}
	return odd{}
}
