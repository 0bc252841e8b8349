package machine

import (
	"slices"
	"testing"

	"dormouse/api"
)

func config() api.Config { return api.Config{Spans: 4, Start: 100} }

func made(t *testing.T, text string) *Machine {
	t.Helper()
	m, e := New(text, config())
	if e != api.OK || m == nil || m.World() == nil || m.Outcome() != api.Going {
		t.Fatalf("P25.1: New(%q): %d", text, e)
	}
	return m
}

func pickOf(n int) api.Entry { return api.Entry{Kind: api.Pick, N: n} }

func wants(t *testing.T, name string, got []api.Event, want ...api.Event) {
	t.Helper()
	if !slices.Equal(got, want) {
		t.Errorf("P25.1: %s: %+v; want %+v", name, got, want)
	}
}

func TestNew(t *testing.T) {
	for text, want := range map[string]api.Errno{"": api.ErrEmpty, "x\t": api.ErrSign, "y": api.ErrOp, "ma4": api.ErrOp, "j1": api.ErrTarget} {
		if m, e := New(text, config()); m != nil || e != want {
			t.Errorf("P25.1: New(%q): %d; want %d", text, e, want)
		}
	}
	if m, e := New("x", api.Config{}); m != nil || e != api.ErrArg {
		t.Errorf("P25.1: New of no config: %d", e)
	}
	if m, e := New("j1", api.Config{}); m != nil || e != api.ErrTarget {
		t.Errorf("R5: New of no config, and no program: %d", e)
	}
}

func TestPick(t *testing.T) {
	m := made(t, "=a3\ng4\n=a4\nx\noa")
	for _, n := range []int{0, 7, -2} {
		wants(t, "a pick", m.Do(pickOf(n)))
	}
	wants(t, "the second one", m.Do(pickOf(3)), api.Event{Kind: api.EOut, Gor: 1, Value: 3})
	wants(t, "the first one", m.Do(pickOf(2)), api.Event{Kind: api.EExit}, api.Event{Kind: api.EEnd, Value: api.Ended})
	wants(t, "behind the end", m.Do(pickOf(0)))
	if m.Outcome() != api.Ended || m.World().Outcome() != api.Ended {
		t.Errorf("P25.1: %d", m.Outcome())
	}
}

func TestDraw(t *testing.T) {
	for draw, want := range []int{8, 9} {
		m := made(t, "ma1\nmb1\n=c8\n=d9\nSsac6sbd7\nx\noc\nod")
		for range 4 {
			m.Do(pickOf(0))
		}
		m.Do(api.Entry{Kind: api.Pick, Draw: draw})
		out := m.Do(pickOf(0))
		if want == 8 {
			wants(t, "the first case", out, api.Event{Kind: api.EOut, Value: 8})
		} else {
			wants(t, "the second case", out, api.Event{Kind: api.EOut, Value: 9})
		}
	}
}

func TestDeadlock(t *testing.T) {
	m := made(t, "rab")
	m.Do(pickOf(0))
	wants(t, "a tick", m.Do(api.Entry{Kind: api.Tick, N: 5}))
	wants(t, "a deadlock", m.Do(pickOf(0)), api.Event{Kind: api.EEnd, Gor: -1, Value: api.Deadlock})
	if m.Outcome() != api.Deadlock || m.World().Outcome() != api.Deadlock || len(m.Do(pickOf(0))) != 0 {
		t.Errorf("P25.1: %d", m.Outcome())
	}
	m = made(t, "ta3\nrab\nob")
	m.Do(pickOf(0))
	m.Do(pickOf(0))
	wants(t, "a timer waits", m.Do(pickOf(0)))
	wants(t, "a tick", m.Do(api.Entry{Kind: api.Tick, N: 4}))
	wants(t, "the time", m.Do(pickOf(0)), api.Event{Kind: api.EOut, Value: 3})
	if m.Outcome() != api.Going {
		t.Errorf("P25.1: %d", m.Outcome())
	}
}

func TestCollectAndFinish(t *testing.T) {
	m := made(t, "g5\nbac\nfa4\n=a0\nj4\nrab")
	for _, n := range []int{0, 1, 0, 0, 0} {
		m.Do(pickOf(n))
	}
	for _, n := range []int{-1, api.MaxTicks + 1, 0} {
		wants(t, "no steps", m.Do(api.Entry{Kind: api.Collect, N: n}))
	}
	if m.World().Store().Heap().Phase() != api.Idle {
		t.Error("P25.1: a step was done")
	}
	m.Do(api.Entry{Kind: api.Collect, N: 1})
	if m.World().Store().Heap().Phase() != api.Mark {
		t.Error("P25.1: one step begins a cycle")
	}
	wants(t, "nothing is due", m.Do(api.Entry{Kind: api.Finish}))
	// One root, a box that is kept, the way to Sweep, and four spans.
	m.Do(api.Entry{Kind: api.Collect, N: 4})
	wants(t, "a cycle", m.Do(api.Entry{Kind: api.Collect, N: 4}), api.Event{Kind: api.EReclaim, Gor: 1})
	if m.World().Store().Heap().Cycles() != 1 {
		t.Errorf("P25.1: %d cycles", m.World().Store().Heap().Cycles())
	}
	wants(t, "a finaliser", m.Do(api.Entry{Kind: api.Finish}), api.Event{Kind: api.EFinal, Value: 4})
	wants(t, "no other one", m.Do(api.Entry{Kind: api.Finish}))
	wants(t, "many steps", m.Do(api.Entry{Kind: api.Collect, N: api.MaxTicks}))
	if n := len(m.World().Store().Heap().Arena().Objects()); n != 1 {
		t.Errorf("W4: %d things are left", n)
	}
}

func TestOthers(t *testing.T) {
	m := made(t, "oa")
	for _, kind := range []int{0, 5, -1, 1 << 40} {
		wants(t, "another entry", m.Do(api.Entry{Kind: kind, N: 1}))
	}
	wants(t, "as if nothing was", m.Do(pickOf(0)), api.Event{Kind: api.EOut})
}

func TestNil(t *testing.T) {
	for _, m := range []*Machine{nil, {}} {
		for kind := range 6 {
			wants(t, "nil", m.Do(api.Entry{Kind: kind, N: 3}))
		}
		if m.World() != nil || m.Outcome() != 0 {
			t.Error("P25.1: nil tells something")
		}
	}
}
