package step

import (
	"dormouse/api"
	"dormouse/choose"
	"dormouse/list"
	"dormouse/send"
	"dormouse/take"
	"dormouse/value"
	"dormouse/view"
	"dormouse/wake"
)

// communicate does the case that was picked; where none was, the goroutine waits.
func (t *turn) communicate() int {
	if t.pick == none {
		t.wait()
		return api.Going
	}
	c := t.cases[t.pick]
	who, how := none, api.Ended
	switch c.Kind {
	case api.CaseSend:
		who, how = send.Try(t.heap(), t.g.Reg[c.Ch], t.g.Reg[c.Reg])
	case api.CaseTake:
		var v int
		v, who, how = take.Try(t.heap(), t.g.Reg[c.Ch])
		if how == api.Ended {
			t.g.Reg[c.Reg] = v
		}
	}
	if how != api.Ended {
		return how
	}
	t.goesOn(who)
	t.g.Pc = c.To
	view.PutGor(t.heap(), t.at, t.g)
	return api.Going
}

// wait lets the goroutine wait at all that have a channel; where none has one, it waits for ever.
func (t *turn) wait() {
	for i, place := range choose.Waits(t.g, t.cases) {
		c := t.cases[place]
		ch := value.At(t.g.Reg[c.Ch])
		s := api.Sudog{Gor: t.at, Chan: ch, Value: value.Int(0), Next: none, To: c.To, Reg: c.Reg, More: none}
		if c.Kind == api.CaseSend {
			s.Value, s.Reg = t.g.Reg[c.Reg], none
		}
		view.PutSudog(t.heap(), t.made[i], s)
		list.Push(t.heap(), ch, c.Kind == api.CaseSend, t.made[i])
	}
	wake.Park(t.heap(), t.at, t.made)
	t.queue.Remove(t.at)
}
