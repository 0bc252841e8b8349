package step

import (
	"slices"

	"dormouse/api"
	"dormouse/choose"
	"dormouse/heap"
	"dormouse/shut"
	"dormouse/value"
	"dormouse/view"
)

// turn is one step of one goroutine.
type turn struct {
	*World
	at    int
	g     api.Gor
	in    api.Instr
	cases []api.Case // of a Send, a Take, or a Choose
	pick  int        // the place of the case that is done
	made  []int      // the places of what was allotted for it
	seen  []api.Event
}

// Exec lets a goroutine of the queue take a step.
func (w *World) Exec(g, draw int) []api.Event {
	if !w.goes() || !slices.Contains(w.queue.All(), g) {
		return nil
	}
	gor, e := view.Gor(w.heap(), g)
	if e != api.OK {
		return nil
	}
	t := &turn{World: w, at: g, g: gor, in: w.instr(gor.Pc), pick: none}
	t.cases = t.casesOf()
	if len(t.cases) > 0 {
		t.pick = choose.Pick(w.heap(), gor, t.cases, draw)
	}
	if t.allot() {
		t.finish(t.do())
	}
	return t.seen
}

// instr tells the instruction at pc; behind the last one it is an Exit.
func (w *World) instr(pc int) api.Instr {
	if pc < 0 || pc >= len(w.program) {
		return api.Instr{Op: api.Exit}
	}
	return w.program[pc]
}

// casesOf sees a Send, or a Take, as a choice of one.
func (t *turn) casesOf() []api.Case {
	switch t.in.Op {
	case api.Send:
		return []api.Case{{Kind: api.CaseSend, Ch: t.in.A, Reg: t.in.B, To: t.g.Pc + 1}}
	case api.Take:
		return []api.Case{{Kind: api.CaseTake, Ch: t.in.A, Reg: t.in.B, To: t.g.Pc + 1}}
	}
	return t.in.Cases
}

// allot asks for all that the step needs ahead of all else: without room for it nothing is done.
func (t *turn) allot() bool {
	needs := t.needs()
	if len(needs) == 0 {
		return true
	}
	made, gone, e := t.store.Alloc(needs, t.Roots())
	t.seen = append(t.seen, t.Told(gone)...)
	if e != api.OK {
		t.finish(api.NoMemory)
		return false
	}
	t.made = made
	return true
}

func (t *turn) needs() []api.Need {
	switch t.in.Op {
	case api.Make:
		if t.in.N == 0 {
			return []api.Need{{Kind: api.KChan}}
		}
		return []api.Need{{Kind: api.KChan}, {Kind: api.KBuf, N: t.in.N}}
	case api.After:
		return []api.Need{{Kind: api.KChan}, {Kind: api.KBuf, N: 1}, {Kind: api.KTimer}}
	case api.Go:
		return []api.Need{{Kind: api.KGor}}
	case api.Box:
		return []api.Need{{Kind: api.KBox}}
	}
	var needs []api.Need
	if t.pick == none {
		for range choose.Waits(t.g, t.cases) {
			needs = append(needs, api.Need{Kind: api.KSudog})
		}
	}
	return needs
}

// finish tells an outcome that is not Going.
func (t *turn) finish(outcome int) {
	if outcome != api.Going {
		t.seen = append(t.seen, t.end(t.g.Id, outcome)...)
	}
}

// do does the instruction, and tells the outcome.
func (t *turn) do() int {
	switch t.in.Op {
	case api.Send, api.Take, api.Choose:
		return t.communicate()
	case api.Exit:
		return t.exit()
	}
	next := t.g.Pc + 1
	if t.in.Op == api.Jump || t.in.Op == api.Zero && isNought(t.look(t.g.Reg[t.in.A])) {
		next = t.in.N
	}
	outcome := t.simple()
	if outcome == api.Going {
		t.g.Pc = next
		view.PutGor(t.heap(), t.at, t.g)
	}
	return outcome
}

// simple does what has no other way on than the next instruction; what it turns of the goroutine is put afterwards.
func (t *turn) simple() int {
	in, reg := t.in, &t.g.Reg
	switch in.Op {
	case api.Set:
		reg[in.A] = value.Int(in.N)
	case api.Move:
		reg[in.A] = reg[in.B]
	case api.Add:
		return t.add()
	case api.Make:
		reg[in.A] = t.channel(in.N)
	case api.Shut:
		return t.shut()
	case api.Len, api.Cap:
		return t.measure()
	case api.Go:
		view.PutGor(t.heap(), t.made[0], api.Gor{Id: t.born, Pc: in.N, Reg: *reg, Sudogs: none})
		t.born++
		t.queue.Add(t.made[0])
	case api.Out:
		n, ok := t.look(reg[in.A]).(number)
		t.seen = append(t.seen, api.Event{Kind: api.EOut, Gor: t.g.Id, Value: int(n), Ref: !ok})
	case api.After:
		t.after()
	case api.Put:
		t.globals[in.N] = reg[in.A]
		if value.IsPtr(reg[in.A]) {
			t.heap().Shade(value.At(reg[in.A]))
		}
	case api.Get:
		reg[in.A] = t.globals[in.N]
	case api.Box:
		t.heap().Store(t.made[0], valueWord, reg[in.B])
		reg[in.A] = value.Ptr(t.made[0])
	case api.Load, api.Store, api.Final:
		return t.useBox()
	}
	return api.Going
}

func (t *turn) add() int {
	x, isX := t.look(t.g.Reg[t.in.A]).(number)
	y, isY := t.look(t.g.Reg[t.in.B]).(number)
	if !isX || !isY {
		return api.BadType
	}
	if x+y > api.MaxInt || x+y < -api.MaxInt {
		return api.TooBig
	}
	t.g.Reg[t.in.A] = value.Int(int(x + y))
	return api.Going
}

// channel lays the channel that was allotted, and tells its word.
func (t *turn) channel(cap int) int {
	c := api.Chan{Cap: cap, Buf: none, TakeHead: none, TakeTail: none, SendHead: none, SendTail: none}
	if cap > 0 {
		c.Buf = t.made[1]
	}
	view.PutChan(t.heap(), t.made[0], c)
	return value.Ptr(t.made[0])
}

func (t *turn) after() {
	ch, timer, when := t.channel(1), t.made[2], t.now+t.in.N
	storeAll(t.heap(), timer, value.Int(when), ch)
	t.clock.Add(when, timer)
	t.g.Reg[t.in.A] = ch
}

func storeAll(h *heap.Heap, at int, words ...int) {
	for i, word := range words {
		h.Store(at, i, word)
	}
}

func (t *turn) shut() int {
	woken, how := shut.Try(t.heap(), t.g.Reg[t.in.A])
	if how != api.Ended {
		return how
	}
	t.goesOn(woken...)
	return api.Going
}

func (t *turn) measure() int {
	found := t.look(t.g.Reg[t.in.A])
	c, ok := found.(channel)
	switch {
	case isNought(found):
		t.g.Reg[t.in.B] = value.Int(0)
	case !ok:
		return api.BadType
	case t.in.Op == api.Len:
		t.g.Reg[t.in.B] = value.Int(c.is.Count)
	default:
		t.g.Reg[t.in.B] = value.Int(c.is.Cap)
	}
	return api.Going
}

func (t *turn) useBox() int {
	b, ok := t.look(t.g.Reg[t.in.A]).(box)
	if !ok {
		return api.BadType
	}
	switch t.in.Op {
	case api.Load:
		t.g.Reg[t.in.B], _ = t.heap().Load(b.at, valueWord)
	case api.Store:
		t.heap().Store(b.at, valueWord, t.g.Reg[t.in.B])
	case api.Final:
		t.heap().Store(b.at, finalWord, value.Int(t.in.N+1))
	}
	return api.Going
}

// exit lets the goroutine be done; it stands nowhere any more, and goes when the collector comes by.
func (t *turn) exit() int {
	t.g.Status = api.Done
	t.g.Pc++
	view.PutGor(t.heap(), t.at, t.g)
	t.queue.Remove(t.at)
	t.seen = append(t.seen, api.Event{Kind: api.EExit, Gor: t.g.Id})
	if t.g.Id == 0 {
		return api.Ended
	}
	return api.Going
}
