package step

import (
	"reflect"
	"slices"
	"strings"
	"testing"

	"dormouse/api"
	"dormouse/check"
	"dormouse/list"
	"dormouse/value"
	"dormouse/view"
)

func roomy() api.Config { return api.Config{Spans: 32, Start: 100} }

func program(t *testing.T, text string) []api.Instr {
	t.Helper()
	l, n, e := check.Load(strings.ReplaceAll(text, " ", "\n"))
	if e != api.OK {
		t.Fatalf("%q: line %d: %d", text, n, e)
	}
	return l
}

func made(t *testing.T, text string, c api.Config) *World {
	t.Helper()
	w, e := New(program(t, text), c)
	if e != api.OK || w == nil {
		t.Fatalf("P24.1: New: %d", e)
	}
	return w
}

// exec lets those of the queue at the places take a step each, and tells all events.
func exec(w *World, picks ...int) []api.Event {
	var l []api.Event
	for _, i := range picks {
		g, _ := w.Queue().At(i)
		l = append(l, w.Exec(g, 0)...)
	}
	return l
}

// collect lets a whole cycle go by, behind the one that goes on.
func collect(w *World) []api.Event {
	var l []api.Event
	h := w.Store().Heap()
	for h.Phase() != api.Idle {
		l = append(l, w.Told(w.Store().Collect(w.Roots()))...)
	}
	for end := h.Cycles() + 1; h.Cycles() < end; {
		l = append(l, w.Told(w.Store().Collect(w.Roots()))...)
	}
	return l
}

func gor(t *testing.T, w *World, at int) api.Gor {
	t.Helper()
	g, e := view.Gor(w.Store().Heap(), at)
	if e != api.OK {
		t.Fatalf("no goroutine at %d: %d", at, e)
	}
	return g
}

func wantEvents(t *testing.T, name string, got []api.Event, want ...api.Event) {
	t.Helper()
	if !slices.Equal(got, want) {
		t.Errorf("P24: %s: %+v; want %+v", name, got, want)
	}
}

func TestNew(t *testing.T) {
	w := made(t, "x", roomy())
	if w.Outcome() != api.Going || w.Waiting() != 0 || !slices.Equal(w.Queue().All(), []int{0}) || !slices.Equal(w.Roots(), []int{0}) {
		t.Errorf("P24.1: a new world: %v, %v", w.Queue().All(), w.Roots())
	}
	if g := gor(t, w, 0); g != (api.Gor{Sudogs: -1}) {
		t.Errorf("P24.1: the first goroutine: %+v", g)
	}
	for _, c := range []api.Config{{}, {Spans: 1, Start: 1}, {Spans: 2, Start: 101}, {Spans: 2, Start: 1, Assist: 9}} {
		if w, e := New(program(t, "x"), c); w != nil || e != api.ErrArg {
			t.Errorf("P24.1: New of %+v: %d", c, e)
		}
	}
	for _, l := range [][]api.Instr{nil, {{}}, {{Op: api.Jump, N: 1}}, make([]api.Instr, 61)} {
		if w, e := New(l, roomy()); w != nil || e != api.ErrArg {
			t.Errorf("P24.1: New of %v: %d", l, e)
		}
	}
}

func TestProgramIsNotKept(t *testing.T) {
	l := program(t, "=a1 Srab0e3 x oa")
	w, _ := New(l, roomy())
	l[0].N, l[1].Cases[1].To, l[3].Op = 9, 2, api.Exit
	wantEvents(t, "R3: what is handed in is not kept", exec(w, 0, 0, 0), api.Event{Kind: api.EEnd, Value: api.BadType})
	w, _ = New(program(t, "Srab0e3 x x oa"), roomy())
	wantEvents(t, "else", exec(w, 0, 0), api.Event{Kind: api.EOut})
}

func TestExit(t *testing.T) {
	w := made(t, "x", roomy())
	wantEvents(t, "exit", w.Exec(0, 0), api.Event{Kind: api.EExit}, api.Event{Kind: api.EEnd, Value: api.Ended})
	if w.Outcome() != api.Ended || w.Queue().Len() != 0 || gor(t, w, 0) != (api.Gor{Status: api.Done, Pc: 1, Sudogs: -1}) {
		t.Errorf("P24.1: behind the exit: %d, %v", w.Outcome(), w.Queue().All())
	}
	w.Queue().Add(0)
	wantEvents(t, "behind the end", append(append(append(w.Exec(0, 0), w.Fire(1)...), w.Finish()...), w.Stall()...))
	wantEvents(t, "told behind the end", w.Told([]api.Gone{{Kind: api.KGor, Words: []int{2, 2}}}))
	w = made(t, "g0 j1 x", roomy())
	exec(w, 0, 0)
	w = made(t, "=a1", roomy())
	wantEvents(t, "behind the last instruction", exec(w, 0, 0), api.Event{Kind: api.EExit}, api.Event{Kind: api.EEnd, Value: api.Ended})
}

func TestNotInTheQueue(t *testing.T) {
	w := made(t, "rab", roomy())
	for _, at := range []int{-1, 1, 16, 1 << 40} {
		wantEvents(t, "nobody", w.Exec(at, 0))
	}
	exec(w, 0)
	if g := gor(t, w, 0); g.Status != api.Blocked || g.Pc != 0 || g.Sudogs != -1 || w.Queue().Len() != 0 {
		t.Errorf("P24.1: who waits for ever: %+v", g)
	}
	wantEvents(t, "who waits", w.Exec(0, 0))
	box, _ := w.Store().Heap().Alloc(api.KBox, 2)
	w.Queue().Add(box)
	wantEvents(t, "no goroutine", w.Exec(box, 0))
}

func TestThingsAreLaid(t *testing.T) {
	w := made(t, "ma2 mb0 tc7 bda fd4 g0 p1d", roomy())
	h := w.Store().Heap()
	exec(w, 0, 0, 0, 0, 0, 0)
	g := gor(t, w, 0)
	if g.Pc != 6 {
		t.Errorf("P24.1: pc %d", g.Pc)
	}
	a, _ := view.Chan(h, value.At(g.Reg[0]))
	b, _ := view.Chan(h, value.At(g.Reg[1]))
	c, _ := view.Chan(h, value.At(g.Reg[2]))
	if a.Cap != 2 || h.Arena().Kind(a.Buf) != api.KBuf || h.Arena().Len(a.Buf) != 2 || b.Cap != 0 || b.Buf != -1 || c.Cap != 1 || h.Arena().Len(c.Buf) != 1 {
		t.Errorf("P24.1: channels: %+v, %+v, %+v", a, b, c)
	}
	d := value.At(g.Reg[3])
	v, _ := h.Load(d, 0)
	f, _ := h.Load(d, 1)
	if h.Arena().Kind(d) != api.KBox || v != g.Reg[0] || f != value.Int(5) {
		t.Errorf("P24.3: the box: %d, %d", v, f)
	}
	q := w.Queue().All()
	if n := gor(t, w, q[1]); len(q) != 2 || n != (api.Gor{Id: 1, Reg: g.Reg, Sudogs: -1}) {
		t.Errorf("P24.1: another goroutine: %+v", n)
	}
	roots := w.Roots()
	timer := roots[2]
	when, _ := h.Load(timer, 0)
	ch, _ := h.Load(timer, 1)
	if len(roots) != 3 || h.Arena().Kind(timer) != api.KTimer || when != value.Int(7) || ch != g.Reg[2] || w.Waiting() != 1 {
		t.Errorf("P24.1: the timer: %d, %d, roots %v", when, ch, roots)
	}
	exec(w, 0)
	if want := []int{q[0], q[1], d, timer}; !slices.Equal(w.Roots(), want) {
		t.Errorf("P24.1: Roots: %v; want %v", w.Roots(), want)
	}
}

func TestSudogsAreLaid(t *testing.T) {
	w := made(t, "ma0 mb0 =d5 g5 Srac8sbd9 Srbe6sad7 x x x x", roomy())
	h := w.Store().Heap()
	exec(w, 0, 0, 0, 0, 0)
	g := gor(t, w, 0)
	first, _ := view.Sudog(h, g.Sudogs)
	second, _ := view.Sudog(h, first.More)
	a, b := value.At(g.Reg[0]), value.At(g.Reg[1])
	if want := (api.Sudog{Gor: 0, Chan: a, Next: -1, To: 8, Reg: 2, More: first.More}); first != want {
		t.Errorf("P24.1: who takes: %+v; want %+v", first, want)
	}
	if want := (api.Sudog{Gor: 0, Chan: b, Value: value.Int(5), Next: -1, To: 9, Reg: -1, More: -1}); second != want {
		t.Errorf("P24.1: who sends: %+v; want %+v", second, want)
	}
	if !slices.Equal(list.All(h, a, false), []int{g.Sudogs}) || !slices.Equal(list.All(h, b, true), []int{first.More}) || g.Status != api.Blocked || g.Pc != 4 {
		t.Errorf("P24.1: who waits: %+v", g)
	}
	one := w.Queue().All()[0]
	w.Exec(one, 1)
	if g, n := gor(t, w, 0), gor(t, w, one); g.Pc != 8 || g.Reg[2] != value.Int(5) || g.Status != api.Runnable || n.Pc != 7 || !slices.Equal(w.Queue().All(), []int{one, 0}) {
		t.Errorf("P24.1: who was woken: %+v, %+v, %v", g, n, w.Queue().All())
	}
	if len(list.All(h, a, false)) != 0 || len(list.All(h, b, true)) != 0 {
		t.Error("P24.1: who was woken waits")
	}
}

func TestErrorsTurnNothing(t *testing.T) {
	for text, want := range map[string]int{"sab": api.Going, "=a1 sab": api.BadType, "=a1 rab": api.BadType, "bab ca": api.BadType, "ca": api.ShutNil, "ma0 ca ca": api.ShutClosed, "ma0 ca sab": api.SendClosed, "bab +ab": api.BadType, "=a1 uab": api.BadType, "=a1 wab": api.BadType, "fa1": api.BadType, "bab lab": api.BadType, "=a1 kab": api.BadType} {
		w := made(t, text, roomy())
		n := len(strings.Fields(text))
		var l []api.Event
		for range n {
			l = append(l, exec(w, 0)...)
		}
		if want == api.Going {
			wantEvents(t, text, l)
			continue
		}
		wantEvents(t, text, l, api.Event{Kind: api.EEnd, Value: want})
		if g := gor(t, w, 0); w.Outcome() != want || g.Pc != n-1 || !slices.Equal(w.Queue().All(), []int{0}) {
			t.Errorf("P24.1: %q: %d, %+v", text, w.Outcome(), g)
		}
	}
}

func TestTooBig(t *testing.T) {
	w := made(t, "=a1 +aa oa j1", roomy())
	exec(w, 0)
	var l []api.Event
	for w.Outcome() == api.Going {
		l = append(l, exec(w, 0)...)
	}
	n := len(l)
	wantEvents(t, "too big", l[n-2:], api.Event{Kind: api.EOut, Value: api.MaxInt}, api.Event{Kind: api.EEnd, Value: api.TooBig})
}

func TestNoMemory(t *testing.T) {
	// 1 waits for ever; 0 lays box upon box.
	w := made(t, "g4 bea <ae j1 rab", api.Config{Spans: 2, Start: 100})
	exec(w, 0, 1)
	var l []api.Event
	for range 100 {
		l = append(l, exec(w, 0)...)
	}
	wantEvents(t, "no room", l, api.Event{Kind: api.EReclaim, Gor: 1}, api.Event{Kind: api.EEnd, Value: api.NoMemory})
	if g := gor(t, w, 0); w.Outcome() != api.NoMemory || g.Pc != 1 || g.Reg[0] != g.Reg[4] || !slices.Equal(w.Queue().All(), []int{0}) {
		t.Errorf("P24.1: without room nothing is done: %+v", g)
	}
	if n := len(w.Store().Heap().Arena().Objects()); n != 9 {
		t.Errorf("W5: %d things where there is room for 9", n)
	}
}

// What can not be reached any more makes room.
func TestRoomIsMade(t *testing.T) {
	for _, text := range []string{"ma3 j0", "bab j0", "g2 j0 x", "g2 j0 rab", "ta0 j0"} {
		w := made(t, text, api.Config{Spans: 4, Start: 50, Assist: 2})
		for i := range 600 {
			exec(w, i%3)
			if i%4 == 0 {
				w.Fire(1)
			}
		}
		if w.Outcome() != api.Going || w.Store().Heap().Cycles() < 5 {
			t.Errorf("W5: %q: %d, %d cycles", text, w.Outcome(), w.Store().Heap().Cycles())
		}
	}
}

func TestFire(t *testing.T) {
	w := made(t, "ta5 tb2 rac od rbd j2", roomy())
	h := w.Store().Heap()
	exec(w, 0, 0)
	a := value.At(gor(t, w, 0).Reg[0])
	for _, n := range []int{-1, api.MaxTicks + 1, 1 << 40, 0, 1} {
		wantEvents(t, "ticks", w.Fire(n))
	}
	if w.Waiting() != 2 {
		t.Errorf("P24.2: %d timers", w.Waiting())
	}
	exec(w, 0)
	if w.Queue().Len() != 0 {
		t.Error("P24.2: nobody waits")
	}
	w.Fire(api.MaxTicks)
	g := gor(t, w, 0)
	if w.Waiting() != 0 || g.Reg[2] != value.Int(5) || !slices.Equal(w.Queue().All(), []int{0}) || len(list.All(h, a, false)) != 0 {
		t.Errorf("P24.2: who waited for the time: %+v, %v", g, w.Queue().All())
	}
	exec(w, 0, 0)
	if g := gor(t, w, 0); g.Reg[3] != value.Int(2) {
		t.Errorf("P24.2: a time that was held: %+v", g)
	}
	w = made(t, "ta5 =b9 sab", roomy())
	exec(w, 0, 0, 0)
	w.Fire(9)
	if c, _ := view.Chan(w.Store().Heap(), value.At(gor(t, w, 0).Reg[0])); c.Count != 1 || w.Waiting() != 0 {
		t.Errorf("P24.2: a full channel: %+v", c)
	}
	w = made(t, "ta5 ca", roomy())
	exec(w, 0, 0)
	wantEvents(t, "a closed channel", w.Fire(9))
	if w.Outcome() != api.Going || w.Waiting() != 0 {
		t.Errorf("P24.2: a closed channel: %d", w.Outcome())
	}
}

func TestMeasures(t *testing.T) {
	w := made(t, "=b5 lab ob kaa oa mc2 lcb ob scb lcb ob kcb ob", roomy())
	var l []api.Event
	for range 13 {
		l = append(l, exec(w, 0)...)
	}
	var want []api.Event
	for _, v := range []int{0, 0, 0, 1, 2} {
		want = append(want, api.Event{Kind: api.EOut, Value: v})
	}
	wantEvents(t, "len and cap", l, want...)
}

func TestTimerOfNoTicks(t *testing.T) {
	w := made(t, "ta0 lab ob", roomy())
	exec(w, 0)
	w.Fire(0)
	exec(w, 0)
	wantEvents(t, "a tick of 0", exec(w, 0), api.Event{Kind: api.EOut, Value: 1})
	if w.Waiting() != 0 {
		t.Errorf("P24.2: %d timers", w.Waiting())
	}
}

func TestToldAndFinish(t *testing.T) {
	w := made(t, "x", roomy())
	sleeper := []int{value.Int(7), value.Int(api.Blocked), 0, 0, 0, 0, 0, 0, 0, 0}
	done := []int{value.Int(8), value.Int(api.Done), 0, 0, 0, 0, 0, 0, 0, 0}
	got := w.Told([]api.Gone{
		{Kind: api.KBox, At: 40, Words: []int{0, value.Int(3)}, Kept: true},
		{Kind: api.KGor, At: 64, Words: sleeper},
		{Kind: api.KGor, At: 80, Words: done},
		{Kind: api.KBox, At: 44, Words: []int{0, value.Int(3)}},
		{Kind: api.KChan, At: 96, Words: sleeper},
		{Kind: api.KBox, At: 48, Words: []int{0, value.Int(1)}, Kept: true},
		{Kind: api.KGor}, {Kind: api.KBox, Kept: true}, {},
	})
	wantEvents(t, "told", got, api.Event{Kind: api.EReclaim, Gor: 7})
	if !slices.Equal(w.Roots(), []int{0, 40, 48}) {
		t.Errorf("P24.2: Roots: %v", w.Roots())
	}
	wantEvents(t, "finish", w.Finish(), api.Event{Kind: api.EFinal, Value: 2})
	wantEvents(t, "finish", w.Finish(), api.Event{Kind: api.EFinal, Value: 0})
	wantEvents(t, "finish", w.Finish())
	if !slices.Equal(w.Roots(), []int{0}) {
		t.Errorf("P24.2: Roots: %v", w.Roots())
	}
}

func TestSleepersAreTakenAway(t *testing.T) {
	// 1 waits at a channel that only it has; 2 at one that 0 has, too; 3 is done.
	w := made(t, "mb0 g7 g7 g7 =b0 j4 x ma0 rac", roomy())
	exec(w, 0, 0, 0, 0, 0)
	q := w.Queue().All()
	for _, g := range q[1:3] {
		w.Exec(g, 0)
		w.Exec(g, 0)
	}
	wantEvents(t, "two sleepers", collect(w), api.Event{Kind: api.EReclaim, Gor: 1}, api.Event{Kind: api.EReclaim, Gor: 2})
	wantEvents(t, "nobody twice", collect(w))
	w = made(t, "mb0 g4 j2 x rbc", roomy())
	exec(w, 0, 0)
	w.Exec(w.Queue().All()[1], 0)
	wantEvents(t, "one that may be woken", collect(w))
	w = made(t, "g2 j1 sab", roomy())
	exec(w, 0, 1)
	wantEvents(t, "one that waits at no channel", collect(w), api.Event{Kind: api.EReclaim, Gor: 1})
}

func TestFinalisersAreDueOnce(t *testing.T) {
	w := made(t, "bac fa3 fa7 =a0 j4", roomy())
	exec(w, 0, 0, 0)
	wantEvents(t, "reached", collect(w))
	wantEvents(t, "not due", w.Finish())
	exec(w, 0)
	wantEvents(t, "due", collect(w))
	if len(w.Roots()) != 2 {
		t.Errorf("P24.1: a box that is due is no root: %v", w.Roots())
	}
	wantEvents(t, "kept", collect(w))
	if w.Store().Heap().Arena().Kind(w.Roots()[1]) != api.KBox {
		t.Error("W3: a box that is due is gone")
	}
	wantEvents(t, "finish", w.Finish(), api.Event{Kind: api.EFinal, Value: 7})
	collect(w)
	wantEvents(t, "once", w.Finish())
	if l := w.Store().Heap().Arena().Objects(); !slices.Equal(l, []int{0}) {
		t.Errorf("W4: %v is left", l)
	}
}

func TestGlobalsAreShaded(t *testing.T) {
	w := made(t, "bab p2a", roomy())
	h := w.Store().Heap()
	exec(w, 0)
	box := value.At(gor(t, w, 0).Reg[0])
	w.Store().Collect(nil)
	if h.Colour(box) != api.White {
		t.Fatal("the box is to be White")
	}
	exec(w, 0)
	if h.Colour(box) != api.Grey || h.Colour(0) != api.White {
		t.Errorf("P24.1: a global that is turned to a pointer: %d", h.Colour(box))
	}
}

func TestStall(t *testing.T) {
	w := made(t, "rab", roomy())
	wantEvents(t, "stall", w.Stall(), api.Event{Kind: api.EEnd, Gor: -1, Value: api.Deadlock})
	if w.Outcome() != api.Deadlock {
		t.Errorf("P25.1: %d", w.Outcome())
	}
	wantEvents(t, "stall again", w.Stall())
}

func TestNil(t *testing.T) {
	for _, w := range []*World{nil, {}} {
		l := append(append(append(w.Exec(0, 0), w.Fire(1)...), w.Finish()...), w.Told(nil)...)
		if len(l) != 0 || len(w.Roots()) != 0 || w.Store() != nil || w.Queue() != nil || w.Outcome() != 0 || w.Waiting() != 0 {
			t.Errorf("P24.2: nil tells something: %v", l)
		}
	}
	var w *World
	if len(w.Stall()) != 0 || !reflect.DeepEqual(w.Told([]api.Gone{{Kind: api.KGor, Words: []int{2, 2}}}), []api.Event(nil)) {
		t.Error("P24.2: nil tells something")
	}
}
