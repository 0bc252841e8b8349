package step

import (
	"math/rand"
	"testing"

	"dormouse/api"
	"dormouse/check"
	"dormouse/choose"
	"dormouse/list"
	"dormouse/ring"
	"dormouse/send"
	"dormouse/shut"
	"dormouse/take"
	"dormouse/value"
	"dormouse/wake"
)

// meddle lays words by hand, or frees what stands somewhere.
func meddle(r *rand.Rand, w *World) {
	h := w.Store().Heap()
	all := h.Arena().Objects()
	if len(all) == 0 {
		return
	}
	at := all[r.Intn(len(all))]
	word := value.Ptr(all[r.Intn(len(all))])
	switch r.Intn(6) {
	case 0:
		word = value.Int(r.Intn(9) - 4)
	case 1:
		word = int(r.Uint64())
	}
	switch r.Intn(30) {
	case 0:
		h.Arena().Free(at)
	case 1:
		h.Arena().Alloc(1+r.Intn(6), r.Intn(12))
	case 2:
		w.Queue().Add(at)
	case 3:
		w.globals[r.Intn(api.Globals)] = word
	case 4:
		w.clock.Add(r.Intn(9), at)
	default:
		h.Store(at, r.Intn(h.Arena().Len(at)+1), word)
	}
}

// callAll calls what works on words, whatever they are.
func callAll(r *rand.Rand, w *World) {
	h := w.Store().Heap()
	all := append(h.Arena().Objects(), -1, 3, 1<<40)
	at, other := all[r.Intn(len(all))], all[r.Intn(len(all))]
	word, v := value.Ptr(at), value.Ptr(other)
	switch r.Intn(10) {
	case 0:
		list.Push(h, at, r.Intn(2) == 0, other)
	case 1:
		list.Pop(h, at, r.Intn(2) == 0)
	case 2:
		list.Remove(h, at, r.Intn(2) == 0, other)
	case 3:
		wake.Wake(h, at, v)
	case 4:
		wake.Park(h, at, []int{other, other, at})
	case 5:
		send.Try(h, word, v)
	case 6:
		take.Try(h, word)
	case 7:
		shut.Try(h, word)
	case 8:
		ring.Put(h, at, v)
		ring.Take(h, other)
		ring.All(h, at)
	case 9:
		g := api.Gor{Reg: [api.Regs]int{word, v}}
		cases := []api.Case{{Kind: r.Intn(5), Ch: r.Intn(3)}, {Kind: r.Intn(5), Ch: r.Intn(3)}}
		choose.Pick(h, g, cases, r.Intn(9)-2)
	}
}

// TestWordsLaidByHand looks for no more than that all calls come to an end, and none panics.
func TestWordsLaidByHand(t *testing.T) {
	for seed := range int64(1_500) {
		r := rand.New(rand.NewSource(seed))
		l, _, _ := check.Load(randomText(r))
		w, e := New(l, api.Config{Spans: 2 + r.Intn(8), Start: 1 + r.Intn(100), Assist: r.Intn(9)})
		if e != api.OK {
			t.Fatal(e)
		}
		for range 150 {
			for range r.Intn(4) {
				meddle(r, w)
				callAll(r, w)
			}
			g, _ := w.Queue().At(r.Intn(9))
			w.Exec(g, r.Intn(9)-2)
			w.Fire(r.Intn(5) - 1)
			for range r.Intn(9) {
				w.Told(w.Store().Collect(w.Roots()))
			}
			w.Finish()
			if w.Outcome() != api.Going {
				w.outcome = api.Going
			}
		}
	}
}
