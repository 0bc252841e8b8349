package plain

import (
	"reflect"
	"slices"
	"strconv"
	"strings"
	"testing"

	"dormouse/api"
	"dormouse/check"
)

// show tells events shortly: o (out), x (exit), e (end), each with whose, and what.
func show(l []api.Event) string {
	var s []string
	for _, e := range l {
		v := strconv.Itoa(e.Value)
		if e.Ref {
			v += "*"
		}
		g := strconv.Itoa(e.Gor)
		switch e.Kind {
		case api.EOut:
			s = append(s, "o"+g+":"+v)
		case api.EExit:
			s = append(s, "x"+g)
		case api.EEnd:
			s = append(s, "e"+g+":"+v)
		default:
			s = append(s, "?"+v)
		}
	}
	return strings.Join(s, " ")
}

// entries reads a script: a number is a Pick of it (drawn, behind a dot), t a Tick.
func entries(t *testing.T, s string) []api.Entry {
	t.Helper()
	var l []api.Entry
	for _, f := range strings.Fields(s) {
		e := api.Entry{Kind: api.Pick}
		if strings.HasPrefix(f, "t") {
			e.Kind, f = api.Tick, f[1:]
		}
		n, draw, _ := strings.Cut(f, ".")
		e.N, _ = strconv.Atoi(n)
		e.Draw, _ = strconv.Atoi(draw)
		l = append(l, e)
	}
	return l
}

func program(t *testing.T, text string) []api.Instr {
	t.Helper()
	l, n, e := check.Load(strings.ReplaceAll(text, " ", "\n"))
	if e != api.OK {
		t.Fatalf("%q: line %d: %d", text, n, e)
	}
	return l
}

// picks is a script that picks the first one so often.
func picks(n int) string { return strings.Repeat("0 ", n) }

func TestRun(t *testing.T) {
	for _, c := range []struct {
		name, text, script string
		events             string
		outcome            int
		steps              []int
	}{
		{"exit", "x", "0", "x0 e0:1", api.Ended, []int{0}},
		{"nothing to do", "x", "", "", api.Going, nil},
		{"behind the end", "=a1", "0 0 0", "x0 e0:1", api.Ended, []int{0, 0}},
		{"set, move, add", "=a5 <ba +ab oa ob of", picks(7), "o0:10 o0:5 o0:0 x0 e0:1", api.Ended, []int{0, 0, 0, 0, 0, 0, 0}},
		{"add to itself", "=a7 +aa oa", picks(3), "o0:14", api.Going, nil},
		{"add of a box", "bba +ab", picks(2), "e0:6", api.BadType, nil},
		{"add to a channel", "ma0 +ab", picks(2), "e0:6", api.BadType, nil},
		{"refs", "ma0 bba oa ob", picks(4), "o0:0* o0:0*", api.Going, nil},
		{"jump and zero", "j2 x za4 x =a1 za0 oa", picks(5), "o0:1", api.Going, nil},
		{"zero of a channel", "ma0 za0 ob", picks(3), "o0:0", api.Going, nil},
		{"a held value", "ma2 =b7 sab lac oc kac oc rad od lac oc", picks(11), "o0:1 o0:2 o0:7 o0:0", api.Going, nil},
		{"len and cap of nought", "=b5 lab ob =b5 kab ob", picks(6), "o0:0 o0:0", api.Going, nil},
		{"len of a number", "=a5 lab", picks(2), "e0:6", api.BadType, nil},
		{"cap of a box", "bab kab", picks(2), "e0:6", api.BadType, nil},
		{"a box", "=b3 bab =b4 uac oc wab uac oc", picks(8), "o0:3 o0:4", api.Going, nil},
		{"a box with a box", "bab bca ucd =e9 wde uae oe", picks(7), "o0:9", api.Going, nil},
		{"load of a number", "uab", picks(1), "e0:6", api.BadType, nil},
		{"store of a channel", "ma0 wab", picks(2), "e0:6", api.BadType, nil},
		{"final", "bab fa9 oa", picks(3), "o0:0*", api.Going, nil},
		{"final of nought", "fa0", picks(1), "e0:6", api.BadType, nil},
		{"globals", "=a4 p3a qb3 ob qb2 ob", picks(6), "o0:4 o0:0", api.Going, nil},
		{"globals of others", "=a4 p0a g5 x x qb0 ob", "0 0 0 1 1", "o1:4", api.Going, []int{0, 0, 0, 1, 1}},
		{"shut nought", "ca", picks(1), "e0:5", api.ShutNil, nil},
		{"shut a number", "=a1 ca", picks(2), "e0:6", api.BadType, nil},
		{"shut a box", "bab ca", picks(2), "e0:6", api.BadType, nil},
		{"shut twice", "ma0 ca ca", picks(3), "e0:4", api.ShutClosed, nil},
		{"send to a closed one", "ma1 ca sab", picks(3), "e0:3", api.SendClosed, nil},
		{"send to a number", "=a1 sab", picks(2), "e0:6", api.BadType, nil},
		{"take from a box", "bab rab", picks(2), "e0:6", api.BadType, nil},
		{"take from a closed one", "ma1 =b7 sab ca rac oc rac oc", picks(8), "o0:7 o0:0", api.Going, nil},
		{"wait for ever to send", "sab", picks(2), "e-1:2", api.Deadlock, []int{0}},
		{"wait for ever to take", "rab", picks(3), "e-1:2", api.Deadlock, []int{0}},
		{"wait at a channel", "ma0 sab", picks(3), "e-1:2", api.Deadlock, []int{0, 0}},
	} {
		r := Run(program(t, c.text), entries(t, c.script))
		if show(r.Events) != c.events || r.Outcome != c.outcome || c.steps != nil && !slices.Equal(r.Steps, c.steps) {
			t.Errorf("P23: %s: %q, %d, %v; want %q, %d, %v", c.name, show(r.Events), r.Outcome, r.Steps, c.events, c.outcome, c.steps)
		}
	}
}

func TestMalformed(t *testing.T) {
	for _, l := range [][]api.Instr{nil, {{}}, {{Op: api.Jump, N: 1}}, make([]api.Instr, 61)} {
		r := Run(l, entries(t, "0 0"))
		if r.Outcome != api.Malformed || len(r.Events) != 0 || len(r.Steps) != 0 {
			t.Errorf("P23.1: %v: %+v", l, r)
		}
	}
}

func TestQueue(t *testing.T) {
	// Two others begin; each tells what is in its register.
	text := "=a1 g4 =a2 g4 oa x"
	for _, c := range []struct{ script, events string }{
		{"0 0 0 0 1 2 0", "o1:1 o2:2 o0:2"},
		{"0 0 0 0 1 1 1 1", "o1:1 x1 o2:2 x2"},
		{"0 0 1 1 0 0 1 0", "o1:1 x1 o2:2 o0:2"},
		{"0 0 0 0 5 4 3", "o2:2 o1:1 o0:2"},
		{"0 0 0 0 -7 2", "o0:2 o2:2"},
		{"0 0 0 0 0 0 1 1", "o0:2 x0 e0:1"},
	} {
		if r := Run(program(t, text), entries(t, c.script)); show(r.Events) != c.events {
			t.Errorf("P23.1: %q: %q; want %q", c.script, show(r.Events), c.events)
		}
	}
}

func TestWhoWaits(t *testing.T) {
	for _, c := range []struct{ name, text, script, events string }{
		// 0 waits to take; 1 sends, and goes on; 0 is last in the queue.
		{"taker first", "ma0 g5 rab ob x =b7 sab oa", "0 0 0 0 0 0 1", "o1:0* o0:7"},
		// 1 waits to send; 0 takes.
		{"sender first", "ma0 g5 rab ob x =b7 sab oa", "0 0 1 1 0 0 1", "o0:7 o1:0*"},
		// Two senders behind a full one: what they send comes in order.
		{"senders move up", "ma1 g8 g8 rab ob rab ob x =b7 sab ob", "0 0 0 1 2 1 2 0 0 0 0 1 2", "o0:7 o0:7 o1:7 o2:7"},
		{"what is sent comes in order", "ma1 =c1 g10 =c2 g10 rad od rad od rad sac", "0 0 0 0 0 1 2 0 0 0 0 0", "o0:1 o0:2"},
		{"room is filled again at once", "ma1 sab g6 rac lad od sab", "0 0 0 1 0 0 0 1", "o0:1 x1"},
		// All who take go on with 0 when it is shut.
		{"shut wakes takers", "ma0 g5 g5 ca x =b7 rab ob", "0 0 0 1 1 1 1 0 1 2", "o1:0 o2:0"},
		{"shut where somebody sends", "ma0 g3 ca sab", "0 0 1 0", "e0:3"},
	} {
		if r := Run(program(t, c.text), entries(t, c.script)); show(r.Events) != c.events {
			t.Errorf("P23.2: %s: %q; want %q", c.name, show(r.Events), c.events)
		}
	}
}

func TestChoose(t *testing.T) {
	made := "ma1 mb1 mc0 =d5 sad "
	for _, c := range []struct{ name, text, script, events string }{
		{"the first one that is ready", made + "Srae8sbd10 x x oe x =f2 of", picks(5) + "0.0 0", "o0:5"},
		{"by the draw", made + "Srae8sbd10 x x oe x =f2 of", picks(5) + "0.1 0 0", "o0:2"},
		{"round", made + "Srae8rce9 x x oe x", picks(5) + "0.1 0", "o0:5"},
		{"a draw beyond", made + "Srae8sbd10 x x oe x =f2 of", picks(5) + "0.5 0 0", "o0:2"},
		{"a draw below", made + "Srae8sbd10 x x oe x =f2 of", picks(5) + "0.-5 0", "o0:5"},
		{"one that waits is passed over", made + "Srce8rae10 x x oe x oe", picks(5) + "0.0 0", "o0:5"},
		{"else", made + "Srce8sad8e10 x x oe x oc", picks(5) + "0.1 0", "o0:0*"},
		{"else alone", "Se2 x =a1 oa", picks(3), "o0:1"},
		{"a closed one is ready to take", "ma0 ca =b9 Srab5 x ob", picks(5), "o0:0"},
		{"a closed one is ready to send", "ma0 ca Ssab0e0", picks(3), "e0:3"},
		{"a number is ready", "=a1 Srab0e0", picks(2), "e0:6"},
		{"nought waits", "Srab0sab0", picks(2), "e-1:2"},
		{"nought is passed over", "mb1 Srac3sbc4 x x =d1 od", "0 0.0 0 0", "o0:1"},
	} {
		if r := Run(program(t, c.text), entries(t, c.script)); show(r.Events) != c.events {
			t.Errorf("P23.2: %s: %q; want %q", c.name, show(r.Events), c.events)
		}
	}
}

func TestChooseWaitsAtAll(t *testing.T) {
	// 0 waits to take from a, or to send d to b; 1 takes from b, then sends to a, where nobody waits any more.
	text := "ma0 mb0 =d5 g8 Srae6sbd7 x oe od rbf of =f6 saf of"
	if r := Run(program(t, text), entries(t, picks(12))); show(r.Events) != "o1:5 o0:5 e-1:2" {
		t.Errorf("P23.2: a choice waits at all: %q", show(r.Events))
	}
	// No channel at all is passed over, and waits for nobody.
	text = "mb0 g5 Srac5rbd3 od x =e4 sbe"
	if r := Run(program(t, text), entries(t, "0 0 0 0 0 1")); show(r.Events) != "o0:4" {
		t.Errorf("P23.2: a choice waits at all that have a channel: %q", show(r.Events))
	}
	// What it sends is what it was when it began to wait.
	text = "ma0 =d5 g5 Ssad4rae4 x rab ob"
	if r := Run(program(t, text), entries(t, "0 0 0 0 0 0")); show(r.Events) != "o1:5" {
		t.Errorf("P23.2: what a choice sends: %q", show(r.Events))
	}
	// A choice that takes from, and sends to, one channel does not meet itself.
	text = "ma0 =d5 Ssad0rae0"
	if r := Run(program(t, text), entries(t, "0 0 0 0")); show(r.Events) != "e-1:2" {
		t.Errorf("P23.2: a choice meets itself: %q", show(r.Events))
	}
}

func TestTimers(t *testing.T) {
	for _, c := range []struct{ name, text, script, events string }{
		{"the time at which it was due", "ta5 rab ob", "t3 0 0 t4 t0 t1 0", "o0:8"},
		{"late", "ta5 rab ob", "0 0 t20 0", "o0:5"},
		{"nobody waits yet", "ta5 rab ob", "0 t9 0 0", "o0:5"},
		{"at once", "ta0 rab ob", "0 0 t0 0", "o0:0"},
		{"no deadlock", "ta5 rab ob", "0 0 0 0 t5 0", "o0:5"},
		{"a deadlock when it is gone", "ta5 rac rab", "0 0 t5 0 0", "e-1:2"},
		{"in order", "ta7 tb5 tc7 Sraf6rbf6rcf6 x x of j3", "0 0 0 0 t9 0 0 0.0 0 0 0.0 0", "o0:5 o0:7 o0:7"},
		{"a closed one", "ta5 ca rab ob", "0 0 t5 0 0", "o0:0"},
		{"a full one", "ta5 =b9 sab rab ob rab", "0 0 0 t5 0 0 0 0", "o0:9 e-1:2"},
		{"wrong ticks", "ta5 rab ob", "0 0 t-1 t1001 0 t1000 0", "o0:5"},
		{"len and cap", "ta5 lab kac ob oc", "0 t5 0 0 0 0", "o0:1 o0:1"},
	} {
		if r := Run(program(t, c.text), entries(t, c.script)); show(r.Events) != c.events {
			t.Errorf("P23.1: %s: %q; want %q", c.name, show(r.Events), c.events)
		}
	}
}

func TestTooBig(t *testing.T) {
	// The number 1 is doubled for ever.
	l := program(t, "=a1 +aa oa j1")
	r := Run(l, entries(t, "0 "+picks(1_000)))
	if last := r.Events[len(r.Events)-1]; r.Outcome != api.TooBig || last != (api.Event{Kind: api.EEnd, Value: api.TooBig}) {
		t.Errorf("P23.2: %d, %+v", r.Outcome, last)
	}
	if out := r.Events[len(r.Events)-2]; out.Value != api.MaxInt {
		t.Errorf("P23.2: the greatest number: %d", out.Value)
	}
}

func TestOtherEntries(t *testing.T) {
	l := program(t, "x")
	script := []api.Entry{{}, {Kind: api.Collect, N: 5}, {Kind: api.Finish}, {Kind: 9}, {Kind: -1}}
	if r := Run(l, script); r.Outcome != api.Going || len(r.Events) != 0 || len(r.Steps) != 0 {
		t.Errorf("P23.1: other entries: %+v", r)
	}
}

func TestRunsAlike(t *testing.T) {
	l := program(t, "ma1 g3 j4 =b4 sab rac oc Srac2sab3")
	script := entries(t, strings.Repeat("0.1 1 2.2 t3 5 ", 60))
	one, two := Run(l, script), Run(l, script)
	if !reflect.DeepEqual(one, two) || !reflect.DeepEqual(l, program(t, "ma1 g3 j4 =b4 sab rac oc Srac2sab3")) {
		t.Error("the same scripts run alike")
	}
}
