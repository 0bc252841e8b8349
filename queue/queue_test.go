package queue

import (
	"slices"
	"testing"
)

func wants(t *testing.T, q *Queue, want ...int) {
	t.Helper()
	if l := q.All(); !slices.Equal(l, want) || q.Len() != len(want) {
		t.Errorf("P20.1: All: %v, %d; want %v", l, q.Len(), want)
	}
	for i, at := range want {
		for _, j := range []int{i, i + len(want), i + 7*len(want)} {
			if got, ok := q.At(j); got != at || !ok {
				t.Errorf("P20.1: At(%d) = %d, %v; want %d", j, got, ok, at)
			}
		}
	}
	for _, i := range []int{-1, -1 << 63} {
		if got, ok := q.At(i); ok != (len(want) > 0) || ok && got != want[0] || !ok && got != 0 {
			t.Errorf("P20.1: At(%d) = %d, %v", i, got, ok)
		}
	}
}

func TestQueue(t *testing.T) {
	q := New()
	wants(t, q)
	places := []int{32, 0, -1, 4095, 1<<63 - 1, -1 << 63, 3}
	for i, at := range places {
		if !q.Add(at) || q.Add(at) {
			t.Errorf("P20.1: Add(%d)", at)
		}
		wants(t, q, places[:i+1]...)
	}
	if !q.Remove(-1) || q.Remove(-1) || q.Remove(2) || q.Remove(23) {
		t.Error("P20.1: Remove")
	}
	wants(t, q, 32, 0, 4095, 1<<63-1, -1<<63, 3)
	if !q.Remove(32) || !q.Remove(3) || !q.Add(32) {
		t.Error("P20.1: Remove of the first one, or the last one")
	}
	wants(t, q, 0, 4095, 1<<63-1, -1<<63, 32)
	for _, at := range q.All() {
		q.Remove(at)
	}
	wants(t, q)
	if _, ok := q.At(1<<63 - 1); ok {
		t.Error("P20.1: At of nobody")
	}
}

func TestFarAway(t *testing.T) {
	q := New()
	for i := range 3 {
		q.Add(i)
	}
	if at, ok := q.At(1<<63 - 1); at != (1<<63-1)%3 || !ok {
		t.Errorf("P20.1: At far away: %d, %v", at, ok)
	}
}

func TestAllIsNewMemory(t *testing.T) {
	q := New()
	q.Add(5)
	q.All()[0] = 9
	wants(t, q, 5)
}

func TestNilAndEmpty(t *testing.T) {
	var q *Queue
	if q.Add(1) || q.Remove(1) {
		t.Error("P20.1: nil holds somebody")
	}
	wants(t, q)
	e := &Queue{}
	e.Add(1)
	wants(t, e, 1)
}
