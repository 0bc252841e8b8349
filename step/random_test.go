package step

import (
	"math/rand"
	"slices"
	"strconv"
	"strings"
	"testing"

	"dormouse/api"
	"dormouse/check"
	"dormouse/live"
	"dormouse/plain"
)

// randomText writes a program: a and b are channels at first, c and d numbers, e a box.
func randomText(r *rand.Rand) string {
	reg := func(some string) string { return string(some[r.Intn(len(some))]) }
	lines := []string{"ma" + strconv.Itoa(r.Intn(4)), "mb" + strconv.Itoa(r.Intn(4)), "=c1", "bec"}
	n := 8 + r.Intn(20)
	to := func() string { return strconv.Itoa(r.Intn(n)) }
	into, ch := "abcdef", "abab"
	if r.Intn(4) > 0 {
		into, ch = "cdf", "ab"
	}
	for len(lines) < n {
		switch r.Intn(24) {
		case 0:
			lines = append(lines, "="+reg("cd")+to())
		case 1:
			lines = append(lines, "<"+reg(into)+reg("abcdef"))
		case 2:
			lines = append(lines, "+"+reg("cd")+reg("cd"))
		case 3:
			lines = append(lines, "m"+reg(ch)+strconv.Itoa(r.Intn(4)))
		case 4, 5:
			lines = append(lines, "s"+reg(ch)+reg("abcdef"))
		case 6, 7:
			lines = append(lines, "r"+reg(ch)+reg(into))
		case 8:
			if r.Intn(4) == 0 {
				lines = append(lines, "c"+reg(ch))
			}
		case 9:
			lines = append(lines, reg("lk")+reg(ch)+reg("cd"))
		case 10, 11, 12:
			lines = append(lines, "g"+to())
		case 13:
			lines = append(lines, reg("jjz")+"")
			if last := len(lines) - 1; lines[last] == "z" {
				lines[last] += reg("cdf") + to()
			} else {
				lines[last] += to()
			}
		case 14:
			lines = append(lines, "o"+reg("abcdef"))
		case 15:
			lines = append(lines, "t"+reg(ch+"f")+strconv.Itoa(r.Intn(9)))
		case 16:
			lines = append(lines, "be"+reg("abcdef"), "fe"+strconv.Itoa(r.Intn(10)))
		case 17:
			lines = append(lines, "ue"+reg(into))
		case 18:
			lines = append(lines, "we"+reg("abcdef"))
		case 19:
			lines = append(lines, reg("p")+strconv.Itoa(r.Intn(4))+reg("abcdef"))
		case 20:
			lines = append(lines, "q"+reg(into)+strconv.Itoa(r.Intn(4)))
		case 21, 22:
			s, cases := "S", 1+r.Intn(3)
			for range cases {
				s += reg("sr") + reg(ch+"f") + reg(into) + to()
			}
			if cases < 3 && r.Intn(3) == 0 {
				s += "e" + to()
			}
			lines = append(lines, s)
		case 23:
			if r.Intn(3) == 0 {
				lines = append(lines, "x")
			}
		}
	}
	return strings.Join(lines, "\n")
}

// visible leaves out what the plain machine does not tell.
func visible(l []api.Event) []api.Event {
	return slices.DeleteFunc(slices.Clone(l), func(e api.Event) bool { return e.Kind == api.EReclaim || e.Kind == api.EFinal })
}

// watched is a world that is looked at after all that is done with it.
type watched struct {
	t      *testing.T
	name   string
	w      *World
	events []api.Event
	looks  int
	final  int   // finalisers that came due
	done   int   // entries that were done
	steps  int   // steps that were taken
	asleep []nap // who was taken away
}

// nap is who was taken away while it waited, behind how many entries and steps.
type nap struct{ id, done, steps int }

func (x *watched) take(l []api.Event) {
	x.t.Helper()
	for _, e := range l {
		switch e.Kind {
		case api.EReclaim:
			x.asleep = append(x.asleep, nap{e.Gor, x.done, x.steps})
		case api.EFinal:
			x.final++
		}
	}
	x.events = append(x.events, l...)
	if x.looks++; x.looks%4 != 0 {
		return
	}
	if broken := live.Broken(x.w.Store().Heap(), x.w.Roots()); len(broken) > 0 {
		x.t.Fatalf("W3: %s: %v is broken", x.name, broken)
	}
}

func (x *watched) do(e api.Entry) {
	x.t.Helper()
	switch e.Kind {
	case api.Pick:
		g, ok := x.w.Queue().At(e.N)
		if ok {
			if x.w.Outcome() == api.Going {
				x.steps++
			}
			x.take(x.w.Exec(g, e.Draw))
		} else if x.w.Waiting() == 0 {
			x.take(x.w.Stall())
		}
	case api.Tick:
		x.take(x.w.Fire(e.N))
	case api.Collect:
		for range e.N {
			x.take(x.w.Told(x.w.Store().Collect(x.w.Roots())))
		}
	case api.Finish:
		x.take(x.w.Finish())
	}
	x.done++
}

// wantGone lets the collector go on alone till nothing comes of it.
func (x *watched) wantGone() {
	x.t.Helper()
	if x.w.Outcome() != api.Going {
		return
	}
	h := x.w.Store().Heap()
	for again := true; again; {
		again = len(x.w.Finish()) > 0
		for end := h.Cycles() + 2; h.Cycles() < end; {
			x.w.Told(x.w.Store().Collect(x.w.Roots()))
		}
		again = again || len(x.w.due) > 0
	}
	if lost := live.Lost(h, x.w.Roots()); len(lost) > 0 {
		x.t.Fatalf("W4: %s: %v is left", x.name, lost)
	}
}

func randomScript(r *rand.Rand, n int) []api.Entry {
	var l []api.Entry
	for range n {
		e := api.Entry{Kind: api.Pick, N: r.Intn(6), Draw: r.Intn(8)}
		switch r.Intn(12) {
		case 0:
			e = api.Entry{Kind: api.Tick, N: r.Intn(6)}
		case 1, 2:
			e = api.Entry{Kind: api.Collect, N: r.Intn(30)}
		case 3:
			e = api.Entry{Kind: api.Finish}
		}
		l = append(l, e)
	}
	return l
}

// TestAsThePlainMachine holds random worlds against the plain machine.
func TestAsThePlainMachine(t *testing.T) {
	outcomes := map[int]int{}
	asleep, finals := 0, 0
	for seed := range int64(1_200) {
		r := rand.New(rand.NewSource(seed))
		text := randomText(r)
		l, n, e := check.Load(text)
		if e != api.OK {
			t.Fatalf("seed %d: %q: %d, %d", seed, text, n, e)
		}
		c := api.Config{Spans: 2 + r.Intn(12), Start: 1 + r.Intn(100), Assist: r.Intn(9)}
		w, e := New(l, c)
		if e != api.OK {
			t.Fatalf("P24.1: New: %d", e)
		}
		script := randomScript(r, 40+r.Intn(200))
		x := &watched{t: t, name: "seed " + strconv.FormatInt(seed, 10), w: w}
		for _, e := range script {
			x.do(e)
		}
		want := plain.Run(l, script)
		got := visible(x.events)
		if w.Outcome() == api.NoMemory {
			got = got[:len(got)-1]
			if len(want.Events) > len(got) {
				want.Events = want.Events[:len(got)]
			}
		} else if w.Outcome() != want.Outcome {
			t.Fatalf("W1: seed %d: outcome %d; want %d\n%s", seed, w.Outcome(), want.Outcome, text)
		}
		if !slices.Equal(got, want.Events) {
			t.Fatalf("W1: seed %d: %v; want %v\n%s", seed, got, want.Events, text)
		}
		for _, n := range x.asleep {
			again := append(slices.Clone(script[:n.done]), randomScript(r, 200)...)
			for _, steps := range [][]int{want.Steps, plain.Run(l, again).Steps} {
				if n.steps < len(steps) && slices.Contains(steps[n.steps:], n.id) {
					t.Fatalf("W2: seed %d: %d goes on\n%s", seed, n.id, text)
				}
			}
		}
		x.wantGone()
		outcomes[w.Outcome()]++
		asleep += len(x.asleep)
		finals += x.final
	}
	t.Log(outcomes, asleep, finals)
	for _, outcome := range []int{api.Going, api.Ended, api.Deadlock, api.SendClosed, api.BadType, api.NoMemory} {
		if outcomes[outcome] == 0 {
			t.Errorf("no world came to %d: %v", outcome, outcomes)
		}
	}
	if asleep == 0 || finals == 0 {
		t.Errorf("nobody was taken away (%d), or finished (%d)", asleep, finals)
	}
}
