package view

import (
	"dormouse/api"
	"dormouse/heap"
	"dormouse/record"
	"dormouse/value"
)

// unknown is what is not seen as a thing of its own.
type unknown struct{}

// firstReg is the word of a goroutine where its registers begin.
const firstReg = 3

// see tells what stands at a place: a thing that has not just its words is unknown.
func see(h *heap.Heap, at int) any {
	kind := h.Arena().Kind(at)
	need, ok := record.Need(kind, 0)
	if !ok || h.Arena().Len(at) != need {
		return unknown{}
	}
	words := loaded(h, at, need)
	switch kind {
	case api.KChan:
		return chanOf(words)
	case api.KSudog:
		return sudogOf(words)
	case api.KGor:
		return gorOf(words)
	}
	return unknown{}
}

func loaded(h *heap.Heap, at, need int) []int {
	words := make([]int, need)
	for i := range words {
		words[i], _ = h.Load(at, i)
	}
	return words
}

// place tells the word of a place that may be none.
func place(at int) int {
	if at < 0 {
		return value.Int(0)
	}
	return value.Ptr(at)
}

func chanOf(w []int) api.Chan {
	return api.Chan{
		Cap: value.Num(w[0]), Closed: value.Num(w[1]), Count: value.Num(w[2]), Start: value.Num(w[3]), Buf: value.At(w[4]),
		TakeHead: value.At(w[5]), TakeTail: value.At(w[6]), SendHead: value.At(w[7]), SendTail: value.At(w[8]),
	}
}

func chanWords(c api.Chan) []int {
	return []int{
		value.Int(c.Cap), value.Int(c.Closed), value.Int(c.Count), value.Int(c.Start), place(c.Buf),
		place(c.TakeHead), place(c.TakeTail), place(c.SendHead), place(c.SendTail),
	}
}

func sudogOf(w []int) api.Sudog {
	return api.Sudog{
		Gor: value.At(w[0]), Chan: value.At(w[1]), Value: w[2], Next: value.At(w[3]),
		To: value.Num(w[4]), Reg: value.Num(w[5]), More: value.At(w[6]),
	}
}

func sudogWords(s api.Sudog) []int {
	return []int{place(s.Gor), place(s.Chan), s.Value, place(s.Next), value.Int(s.To), value.Int(s.Reg), place(s.More)}
}

func gorOf(w []int) api.Gor {
	g := api.Gor{Id: value.Num(w[0]), Status: value.Num(w[1]), Pc: value.Num(w[2]), Sudogs: value.At(w[firstReg+api.Regs])}
	copy(g.Reg[:], w[firstReg:])
	return g
}

func gorWords(g api.Gor) []int {
	words := []int{value.Int(g.Id), value.Int(g.Status), value.Int(g.Pc)}
	words = append(words, g.Reg[:]...)
	return append(words, place(g.Sudogs))
}
