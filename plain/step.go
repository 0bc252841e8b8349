package plain

import "dormouse/api"

// step does what the goroutine is to do next, and tells the outcome.
func (m *machine) step(g *goroutine, draw int) int {
	if g.pc >= len(m.program) {
		return m.exit(g)
	}
	in := m.program[g.pc]
	switch in.Op {
	case api.Jump:
		g.pc = in.N
		return api.Going
	case api.Zero:
		g.pc++
		if isNought(g.regs[in.A]) {
			g.pc = in.N
		}
		return api.Going
	case api.Send:
		return m.choose(g, []api.Case{{Kind: api.CaseSend, Ch: in.A, Reg: in.B, To: g.pc + 1}}, 0)
	case api.Take:
		return m.choose(g, []api.Case{{Kind: api.CaseTake, Ch: in.A, Reg: in.B, To: g.pc + 1}}, 0)
	case api.Choose:
		return m.choose(g, in.Cases, draw)
	case api.Exit:
		return m.exit(g)
	}
	outcome := m.simple(g, in)
	if outcome == api.Going {
		g.pc++
	}
	return outcome
}

// simple does what has no other way on than the next instruction.
func (m *machine) simple(g *goroutine, in api.Instr) int {
	switch in.Op {
	case api.Set:
		g.regs[in.A] = number(in.N)
	case api.Move:
		g.regs[in.A] = g.regs[in.B]
	case api.Add:
		return add(g, in)
	case api.Make:
		g.regs[in.A] = &channel{cap: in.N}
	case api.Shut:
		return m.shut(g.regs[in.A])
	case api.Len, api.Cap:
		return measure(g, in)
	case api.Go:
		m.begin(in.N, g.regs)
	case api.Out:
		m.out(g, g.regs[in.A])
	case api.After:
		ch := &channel{cap: 1}
		m.timers = append(m.timers, timer{m.now + in.N, ch})
		g.regs[in.A] = ch
	case api.Put:
		m.globals[in.N] = g.regs[in.A]
	case api.Get:
		g.regs[in.A] = m.globals[in.N]
	case api.Box:
		g.regs[in.A] = &box{g.regs[in.B]}
	default:
		return useBox(g, in)
	}
	return api.Going
}

func add(g *goroutine, in api.Instr) int {
	x, isX := g.regs[in.A].(number)
	y, isY := g.regs[in.B].(number)
	if !isX || !isY {
		return api.BadType
	}
	if x+y > api.MaxInt || x+y < -api.MaxInt {
		return api.TooBig
	}
	g.regs[in.A] = x + y
	return api.Going
}

func measure(g *goroutine, in api.Instr) int {
	ch, ok := g.regs[in.A].(*channel)
	switch {
	case isNought(g.regs[in.A]):
		g.regs[in.B] = number(0)
	case !ok:
		return api.BadType
	case in.Op == api.Len:
		g.regs[in.B] = number(len(ch.held))
	default:
		g.regs[in.B] = number(ch.cap)
	}
	return api.Going
}

func useBox(g *goroutine, in api.Instr) int {
	b, ok := g.regs[in.A].(*box)
	if !ok {
		return api.BadType
	}
	switch in.Op {
	case api.Load:
		g.regs[in.B] = b.has
	case api.Store:
		b.has = g.regs[in.B]
	}
	return api.Going
}

func (m *machine) out(g *goroutine, v any) {
	n, ok := v.(number)
	m.tell(api.Event{Kind: api.EOut, Gor: g.id, Value: int(n), Ref: !ok})
}

func (m *machine) exit(g *goroutine) int {
	m.tell(api.Event{Kind: api.EExit, Gor: g.id})
	m.leave(g)
	if g.id == 0 {
		return api.Ended
	}
	return api.Going
}

// choose does the case whose turn it is; a Send, or a Take, is a choice of one.
func (m *machine) choose(g *goroutine, cases []api.Case, draw int) int {
	var turns []api.Case
	for _, c := range cases {
		if c.Kind != api.CaseElse {
			turns = append(turns, c)
		}
	}
	for k := range turns {
		n := len(turns)
		c := turns[(max(draw, 0)%n+k)%n]
		if !wouldWait(g, c) {
			return m.communicate(g, c)
		}
	}
	if len(turns) < len(cases) {
		g.pc = cases[len(cases)-1].To
		return api.Going
	}
	m.waitAt(g, turns)
	return api.Going
}

func (m *machine) communicate(g *goroutine, c api.Case) int {
	ch, ok := g.regs[c.Ch].(*channel)
	if !ok {
		return api.BadType
	}
	if c.Kind == api.CaseTake {
		g.regs[c.Reg] = m.take(ch)
	} else if outcome := m.send(ch, g.regs[c.Reg]); outcome != api.Going {
		return outcome
	}
	g.pc = c.To
	return api.Going
}

// waitAt lets a goroutine wait at all that have a channel; where none has one, it waits for ever.
func (m *machine) waitAt(g *goroutine, cases []api.Case) {
	m.leave(g)
	for _, c := range cases {
		ch, ok := g.regs[c.Ch].(*channel)
		if !ok {
			continue
		}
		w := &wait{g, ch, c, g.regs[c.Reg]}
		g.waits = append(g.waits, w)
		if c.Kind == api.CaseSend {
			ch.sends = append(ch.sends, w)
		} else {
			ch.takes = append(ch.takes, w)
		}
	}
}
