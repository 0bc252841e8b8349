package run

import (
	"math/rand"
	"slices"
	"strings"
	"testing"

	"dormouse/api"
	"dormouse/check"
	"dormouse/machine"
	"dormouse/plain"
	"dormouse/script"
	"dormouse/trace"
)

func config() api.Config { return api.Config{Spans: 8, Start: 50, Assist: 1} }

func bytesOf(t *testing.T, l ...api.Entry) []byte {
	t.Helper()
	b, e := script.Bytes(l)
	if e != api.OK {
		t.Fatalf("%v: %d", l, e)
	}
	return b
}

// picks picks the first one so often.
func picks(n int) []byte { return make([]byte, 2*n) }

func TestRun(t *testing.T) {
	for _, x := range []struct {
		text    string
		b       []byte
		want    string
		outcome int
	}{
		{"", picks(3), "", api.Malformed},
		{"y", picks(3), "", api.Malformed},
		{"j1", picks(3), "", api.Malformed},
		{"x", nil, "", api.Going},
		{"x", picks(1), "exit 0\nend 1 0\n", api.Ended},
		{"x", picks(9), "exit 0\nend 1 0\n", api.Ended},
		{"=a5\noa\nx", picks(3), "out 0 5\nexit 0\nend 1 0\n", api.Ended},
		{"ma0\noa\nrab", picks(9), "out 0 *\nend 2 -1\n", api.Deadlock},
		{"ca", picks(9), "end 5 0\n", api.ShutNil},
		{"j0", picks(500), "", api.Going},
		{"bea\n<ae\nj0", picks(400), "end 8 0\n", api.NoMemory},
	} {
		l, outcome := Run(x.text, config(), x.b)
		if got := trace.Text(l); got != x.want || outcome != x.outcome {
			t.Errorf("P28.1: Run(%q): %q, %d; want %q, %d", x.text, got, outcome, x.want, x.outcome)
		}
		if !Same(x.text, config(), x.b) {
			t.Errorf("P28.1: Same(%q) = false", x.text)
		}
	}
}

func TestRunWithTheCollector(t *testing.T) {
	// 1 waits for ever; a box with a finaliser is let go.
	text := "g5\nbac\nfa4\n=a0\nj4\nrab"
	pick := func(n int) api.Entry { return api.Entry{Kind: api.Pick, N: n} }
	collect, finish := api.Entry{Kind: api.Collect, N: 20}, api.Entry{Kind: api.Finish}
	b := bytesOf(t, pick(0), pick(1), pick(0), pick(0), pick(0), finish, collect, finish, finish, collect)
	c := api.Config{Spans: 8, Start: 100}
	l, outcome := Run(text, c, b)
	if got := trace.Text(l); got != "reclaim 1\nfinal 4\n" || outcome != api.Going || !Same(text, c, b) {
		t.Errorf("P28.1: %q, %d", got, outcome)
	}
	tick := api.Entry{Kind: api.Tick, N: 9}
	b = bytesOf(t, pick(0), pick(0), pick(0), tick, pick(0))
	l, outcome = Run("ta4\nrab\nob", c, b)
	if got := trace.Text(l); got != "out 0 4\n" || outcome != api.Going {
		t.Errorf("P28.1: %q, %d", got, outcome)
	}
}

// The example of README.md.
func TestExample(t *testing.T) {
	events, outcome := Run("=a5\noa\nx", api.Config{Spans: 4, Start: 50, Assist: 1}, []byte{0, 0, 0, 0, 0, 0})
	if got := trace.Text(events); got != "out 0 5\nexit 0\nend 1 0\n" || outcome != api.Ended {
		t.Errorf("README.md: %q, %d", got, outcome)
	}
}

func TestNoSuchConfig(t *testing.T) {
	for _, c := range []api.Config{{}, {Spans: 1, Start: 50}, {Spans: 129, Start: 50}, {Spans: 8}, {Spans: 8, Start: 101}, {Spans: 8, Start: 50, Assist: -1}, {Spans: 8, Start: 50, Assist: 9}} {
		l, outcome := Run("x", c, picks(2))
		if len(l) != 0 || outcome != api.Malformed || !Same("x", c, picks(2)) || !Same("y", c, picks(2)) {
			t.Errorf("P28.1: %+v: %v, %d", c, l, outcome)
		}
	}
}

func TestBegins(t *testing.T) {
	out, end := api.Event{Kind: api.EOut}, api.Event{Kind: api.EEnd, Value: api.NoMemory}
	other := api.Event{Kind: api.EExit}
	for _, x := range []struct {
		seen, want []api.Event
		is         bool
	}{
		{[]api.Event{end}, nil, true},
		{[]api.Event{out, end}, []api.Event{out, other}, true},
		{[]api.Event{out, end}, []api.Event{out}, true},
		{[]api.Event{out, end}, nil, false},
		{[]api.Event{out, end}, []api.Event{other}, false},
		{nil, nil, false},
	} {
		if begins(x.seen, x.want) != x.is {
			t.Errorf("P28.1: begins(%v, %v) = %v", x.seen, x.want, !x.is)
		}
	}
}

// samples are programs that do all that there is to be done.
func samples() []string {
	return []string{
		"ma0\ng4\nrab\nj2\n=c7\nsac\noc\nj4",
		"ma2\ng5\ng5\nrab\nj3\nbcd\nfc3\nsac\nrae\nj5",
		"ma1\nmb1\ng7\nSrac3sbd4rbe5\nof\n+dd\nj3\n=c1\nSsac8rbd9e7\noc\nbde\nj7",
		"ma0\ng4\nma0\nj0\nSrab5saf5\nx",
		"ta3\ntb5\ng6\nSrac4rbd4\nod\nj0\nrae\noe\nx",
		"bea\np0e\nqf0\nufa\nfe2\nwef\ng0\nj0",
		"=a9\ng3\nx\nma1\nlab\nkac\nsaa\nca\nrad\nod\nua\nx",
		"ma3\np1a\ng5\nqa1\nj3\nbbc\nsab\nlac\nzc0\nj5",
		"g2\nj0\nma0\nmb0\ng6\nj2\nsab\nx",
		"ma0\ng3\nca\nrab\nob\nx",
	}
}

// turned writes another sign here and there.
func turned(r *rand.Rand, text string) string {
	b := []byte(text)
	for range r.Intn(4) {
		i := r.Intn(len(b))
		switch {
		case b[i] >= 'a' && b[i] <= 'f':
			b[i] = "abcdef"[r.Intn(6)]
		case b[i] >= '0' && b[i] <= '9':
			b[i] = "0123456789"[r.Intn(10)]
		case b[i] != '\n':
			b[i] = "=<+msrclkgjzotbuwpqfSx"[r.Intn(22)]
		}
	}
	return string(b)
}

func TestAlwaysTheSame(t *testing.T) {
	r := rand.New(rand.NewSource(28))
	outcomes := map[int]int{}
	for range 2_000 {
		all := samples()
		text := turned(r, all[r.Intn(len(all))])
		b := make([]byte, r.Intn(900))
		r.Read(b)
		c := api.Config{Spans: 2 + r.Intn(20), Start: 1 + r.Intn(100), Assist: r.Intn(9)}
		if !Same(text, c, b) {
			t.Fatalf("W1: %q, %+v, %v", text, c, b)
		}
		l, outcome := Run(text, c, b)
		outcomes[outcome]++
		if outcome != api.Going && outcome != api.Malformed && (len(l) == 0 || l[len(l)-1].Kind != api.EEnd || l[len(l)-1].Value != outcome) {
			t.Fatalf("P28.1: %q ends with %d, and tells %v", text, outcome, l)
		}
		again, o := Run(text, c, b)
		if !slices.Equal(l, again) || o != outcome {
			t.Fatalf("R2: %q runs otherwise", text)
		}
		wantAsleep(t, r, text, c, b)
	}
	for outcome := api.Going; outcome <= api.Malformed; outcome++ {
		if outcome != api.ShutNil && outcome != api.TooBig && outcomes[outcome] == 0 {
			t.Errorf("no run came to %d: %v", outcome, outcomes)
		}
	}
}

// wantAsleep looks whether one that was taken away takes a step of the plain machine, however that goes on.
func wantAsleep(t *testing.T, r *rand.Rand, text string, c api.Config, b []byte) {
	t.Helper()
	m, e := machine.New(text, c)
	if e != api.OK {
		return
	}
	l, _, _ := check.Load(text)
	entries := script.Entries(b)
	for i, entry := range entries {
		gone := trace.Reclaimed(m.Do(entry))
		if len(gone) == 0 || m.Outcome() != api.Going {
			continue
		}
		on := make([]byte, 400)
		r.Read(on)
		before := plain.Run(l, entries[:i+1])
		after := plain.Run(l, append(slices.Clone(entries[:i+1]), script.Entries(on)...))
		for _, id := range gone {
			if slices.Contains(after.Steps[len(before.Steps):], id) {
				t.Fatalf("W2: %q, %+v, %v: %d goes on", text, c, b, id)
			}
		}
	}
}

func TestAnyText(t *testing.T) {
	r := rand.New(rand.NewSource(1))
	signs := "=<+msrclkgjzotbuwpqfSxabcdef0123\n \t"
	for range 3_000 {
		var text strings.Builder
		for range r.Intn(40) {
			text.WriteByte(signs[r.Intn(len(signs))])
		}
		b := make([]byte, r.Intn(60))
		r.Read(b)
		c := api.Config{Spans: r.Intn(6), Start: r.Intn(110), Assist: r.Intn(10)}
		if !Same(text.String(), c, b) {
			t.Fatalf("W1: %q, %+v, %v", text.String(), c, b)
		}
	}
}
