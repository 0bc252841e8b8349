package script

import (
	"bytes"
	"slices"
	"testing"

	"dormouse/api"
)

func TestEntries(t *testing.T) {
	for p := range 256 {
		for q := range 256 {
			want := api.Entry{Kind: api.Finish}
			switch {
			case p < 160:
				want = api.Entry{Kind: api.Pick, N: p % 16, Draw: q % 16}
			case p < 192:
				want = api.Entry{Kind: api.Tick, N: q % 32}
			case p < 240:
				want = api.Entry{Kind: api.Collect, N: q % 64}
			}
			if got := Entries([]byte{byte(p), byte(q)}); !slices.Equal(got, []api.Entry{want}) {
				t.Fatalf("P27.1: Entries of %d, %d: %+v; want %+v", p, q, got, want)
			}
		}
	}
}

func TestHowMany(t *testing.T) {
	if l := Entries(nil); len(l) != 0 {
		t.Errorf("P27.1: Entries of nothing: %v", l)
	}
	got := Entries([]byte{3, 9, 200, 70, 5})
	want := []api.Entry{{Kind: api.Pick, N: 3, Draw: 9}, {Kind: api.Collect, N: 6}, {Kind: api.Pick, N: 5}}
	if !slices.Equal(got, want) {
		t.Errorf("P27.1: past the end: %+v; want %+v", got, want)
	}
	for n, want := range map[int]int{1: 1, 2: 1, 3: 2, 799: 400, 800: 400, 801: 400, 5_000: 400} {
		if l := Entries(make([]byte, n)); len(l) != want {
			t.Errorf("P27.1: %d entries of %d bytes; want %d", len(l), n, want)
		}
	}
}

func TestBytes(t *testing.T) {
	l := []api.Entry{
		{Kind: api.Pick}, {Kind: api.Pick, N: 15, Draw: 15}, {Kind: api.Tick}, {Kind: api.Tick, N: 31},
		{Kind: api.Collect}, {Kind: api.Collect, N: 63}, {Kind: api.Finish},
	}
	b, e := Bytes(l)
	if want := []byte{0, 0, 15, 15, 160, 0, 160, 31, 192, 0, 192, 63, 240, 0}; !bytes.Equal(b, want) || e != api.OK {
		t.Errorf("P27.1: Bytes: %v, %d; want %v", b, e, want)
	}
	if back := Entries(b); !slices.Equal(back, l) {
		t.Errorf("what is bytes is entries again: %+v", back)
	}
	if b, e := Bytes(nil); len(b) != 0 || e != api.OK {
		t.Errorf("P27.1: Bytes of nothing: %v, %d", b, e)
	}
	many := slices.Repeat([]api.Entry{{Kind: api.Finish}}, api.MaxSteps)
	if b, e := Bytes(many); len(b) != 2*api.MaxSteps || e != api.OK {
		t.Errorf("P27.1: Bytes of MaxSteps: %d, %d", len(b), e)
	}
	if b, e := Bytes(append(many, many[0])); len(b) != 0 || e != api.ErrArg {
		t.Errorf("P27.1: Bytes of too many: %d, %d", len(b), e)
	}
}

func TestBytesRefuses(t *testing.T) {
	for _, x := range []api.Entry{
		{}, {Kind: 5}, {Kind: -1}, {Kind: api.Pick, N: 16}, {Kind: api.Pick, N: -1}, {Kind: api.Pick, Draw: 16}, {Kind: api.Pick, Draw: -1},
		{Kind: api.Pick, N: 256}, {Kind: api.Pick, Draw: 1 << 40}, {Kind: api.Tick, N: 32}, {Kind: api.Tick, N: -1}, {Kind: api.Tick, Draw: 1}, {Kind: api.Tick, N: 256},
		{Kind: api.Collect, N: 64}, {Kind: api.Collect, N: -1}, {Kind: api.Collect, Draw: 1}, {Kind: api.Finish, N: 1}, {Kind: api.Finish, Draw: 1}, {Kind: 9, N: 2},
	} {
		if b, e := Bytes([]api.Entry{{Kind: api.Pick}, x}); len(b) != 0 || e != api.ErrArg {
			t.Errorf("P27.1: Bytes of %+v: %v, %d; want ErrArg", x, b, e)
		}
	}
}
