package plain

import (
	"slices"

	"dormouse/api"
)

// The values: a number, a *channel, or a *box.
type (
	number  int
	channel struct {
		cap          int
		closed       bool
		held         []any
		sends, takes []*wait
	}
	box struct{ has any }
)

// wait is one that waits at a channel to do a case; what is what it sends.
type wait struct {
	who  *goroutine
	at   *channel
	does api.Case
	what any
}

func isNought(v any) bool {
	n, ok := v.(number)
	return ok && n == 0
}

// wouldWait tells whether who does the case now has to wait.
func wouldWait(g *goroutine, c api.Case) bool {
	ch, ok := g.regs[c.Ch].(*channel)
	if !ok {
		return isNought(g.regs[c.Ch])
	}
	if c.Kind == api.CaseSend {
		return !ch.closed && len(ch.takes) == 0 && len(ch.held) >= ch.cap
	}
	return !ch.closed && len(ch.sends) == 0 && len(ch.held) == 0
}

// send lets nothing come of it, where who sends would have to wait.
func (m *machine) send(ch *channel, v any) int {
	if ch.closed {
		return api.SendClosed
	}
	if len(ch.takes) > 0 {
		m.wake(ch.takes[0], v)
	} else if len(ch.held) < ch.cap {
		ch.held = append(ch.held, v)
	}
	return api.Going
}

func (m *machine) take(ch *channel) any {
	if len(ch.held) > 0 {
		v := ch.held[0]
		ch.held = ch.held[1:]
		if len(ch.sends) > 0 {
			ch.held = append(ch.held, m.release(ch))
		}
		return v
	}
	if len(ch.sends) > 0 {
		return m.release(ch)
	}
	return number(0)
}

// release wakes the first one that waits to send, and tells what it sends.
func (m *machine) release(ch *channel) any {
	first := ch.sends[0]
	m.wake(first, first.what)
	return first.what
}

func (m *machine) shut(v any) int {
	ch, ok := v.(*channel)
	switch {
	case isNought(v):
		return api.ShutNil
	case !ok:
		return api.BadType
	case ch.closed:
		return api.ShutClosed
	case len(ch.sends) > 0:
		return api.SendClosed
	}
	ch.closed = true
	for len(ch.takes) > 0 {
		m.wake(ch.takes[0], number(0))
	}
	return api.Going
}

// wake lets one that waits go on; it waits nowhere else then.
func (m *machine) wake(w *wait, v any) {
	g := w.who
	for _, x := range g.waits {
		x.at.sends = without(x.at.sends, g)
		x.at.takes = without(x.at.takes, g)
	}
	g.waits = nil
	g.pc = w.does.To
	if w.does.Kind == api.CaseTake {
		g.regs[w.does.Reg] = v
	}
	m.queue = append(m.queue, g)
}

func without(l []*wait, g *goroutine) []*wait {
	return slices.DeleteFunc(l, func(w *wait) bool { return w.who == g })
}
