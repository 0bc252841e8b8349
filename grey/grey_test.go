package grey

import (
	"testing"

	"dormouse/api"
)

func wantPop(t *testing.T, l *List, want int) {
	t.Helper()
	if at, ok := l.Pop(); at != want || !ok {
		t.Errorf("P8.1: Pop = %d, %v; want %d", at, ok, want)
	}
}

func wantNone(t *testing.T, l *List) {
	t.Helper()
	if at, ok := l.Pop(); at != 0 || ok || l.Len() != 0 {
		t.Errorf("P8.1: Pop = %d, %v of %d; want none", at, ok, l.Len())
	}
}

func TestLastComesFirst(t *testing.T) {
	l := New()
	wantNone(t, l)
	places := []int{0, 12, 12, 4095, -1, 1<<63 - 1, -1 << 63}
	for i, at := range places {
		if !l.Push(at) || l.Len() != i+1 {
			t.Errorf("P8.1: Push(%d): %d are there", at, l.Len())
		}
	}
	for i := len(places) - 1; i >= 0; i-- {
		wantPop(t, l, places[i])
	}
	wantNone(t, l)
	l.Push(3)
	l.Push(4)
	wantPop(t, l, 4)
	l.Push(5)
	wantPop(t, l, 5)
	wantPop(t, l, 3)
	wantNone(t, l)
}

func TestOver(t *testing.T) {
	l := New()
	for i := range api.MaxGrey {
		if !l.Push(i) || l.Over() {
			t.Errorf("P8.1: Push(%d) is refused", i)
		}
	}
	if l.Push(99) || !l.Over() || l.Len() != api.MaxGrey {
		t.Errorf("P8.1: one too many: %v, %d", l.Over(), l.Len())
	}
	wantPop(t, l, api.MaxGrey-1)
	if !l.Over() || !l.Push(7) || !l.Over() {
		t.Error("P8.1: Over is forgotten ahead of Settle")
	}
	l.Settle()
	if l.Over() || l.Len() != api.MaxGrey {
		t.Errorf("P8.1: Settle: %v, %d", l.Over(), l.Len())
	}
	if l.Push(99) || !l.Over() {
		t.Error("P8.1: one too many again")
	}
}

func TestNilAndEmpty(t *testing.T) {
	var l *List
	l.Settle()
	if l.Push(1) || l.Over() || l.Len() != 0 {
		t.Error("P8.1: nil holds something")
	}
	wantNone(t, l)
	made := &List{}
	made.Push(1)
	wantPop(t, made, 1)
	wantNone(t, made)
}
