package trace

import (
	"math"
	"slices"
	"testing"

	"dormouse/api"
)

// all has an event of each kind, and two of none.
func all() []api.Event {
	return []api.Event{
		{Kind: api.EOut, Gor: 3, Value: 40},
		{Kind: api.EOut, Gor: 12, Value: 5, Ref: true},
		{Kind: api.EReclaim, Gor: 7, Value: 9},
		{Kind: api.EOut, Gor: -1, Value: -1 << 63},
		{Kind: api.EFinal, Gor: 9, Value: 8},
		{Kind: api.EExit, Gor: 2, Value: 6},
		{Kind: 6, Gor: 1},
		{Kind: api.EReclaim, Gor: 1},
		{},
		{Kind: api.EEnd, Gor: -1, Value: api.Deadlock},
	}
}

func TestText(t *testing.T) {
	want := "out 3 40\nout 12 *\nreclaim 7\nout -1 -9223372036854775808\nfinal 8\nexit 2\nreclaim 1\nend 2 -1\n"
	if got := Text(all()); got != want {
		t.Errorf("P26.1: Text: %q; want %q", got, want)
	}
	if got := Text(nil); got != "" {
		t.Errorf("P26.1: Text of nothing: %q", got)
	}
}

func TestTextOfNoKind(t *testing.T) {
	out := api.Event{Kind: api.EOut, Gor: 2, Value: 3}
	for _, kind := range []int{0, 6, -1, math.MaxInt, math.MinInt} {
		none := api.Event{Kind: kind, Gor: 1, Value: 4, Ref: true}
		if got := Text([]api.Event{none}); got != "" {
			t.Errorf("P26.1: Text of kind %d alone: %q", kind, got)
		}
		if got := Text([]api.Event{none, out, none, none, out, none}); got != "out 2 3\nout 2 3\n" {
			t.Errorf("P26.1: Text with kind %d between: %q", kind, got)
		}
		if got := Visible([]api.Event{none}); !slices.Equal(got, []api.Event{none}) {
			t.Errorf("P26.1: Visible of kind %d: %+v", kind, got)
		}
		if got := Reclaimed([]api.Event{none}); len(got) != 0 {
			t.Errorf("P26.1: Reclaimed of kind %d: %v", kind, got)
		}
	}
}

func TestVisible(t *testing.T) {
	l := all()
	got := Visible(l)
	want := slices.Delete(slices.Delete(slices.Delete(all(), 7, 8), 4, 5), 2, 3)
	if !slices.Equal(got, want) {
		t.Errorf("P26.1: Visible: %+v", got)
	}
	if again := Visible(got); !slices.Equal(again, got) {
		t.Errorf("what is visible is visible again: %+v", again)
	}
	got[0].Value = 99
	if !slices.Equal(l, all()) {
		t.Error("R3: what is handed in is changed")
	}
	if len(Visible(nil)) != 0 {
		t.Error("P26.1: Visible of nothing")
	}
}

func TestReclaimed(t *testing.T) {
	if got := Reclaimed(all()); !slices.Equal(got, []int{7, 1}) {
		t.Errorf("P26.1: Reclaimed: %v", got)
	}
	if got := Reclaimed(nil); len(got) != 0 {
		t.Errorf("P26.1: Reclaimed of nothing: %v", got)
	}
}
