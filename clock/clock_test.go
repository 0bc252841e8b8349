package clock

import (
	"math/rand"
	"slices"
	"testing"
)

func wantAll(t *testing.T, c *Clock, want ...int) {
	t.Helper()
	if l := c.All(); !slices.Equal(l, want) || c.Len() != len(want) {
		t.Errorf("P19.1: All: %v, %d; want %v", l, c.Len(), want)
	}
}

func wantDue(t *testing.T, c *Clock, now int, want ...int) {
	t.Helper()
	if l := c.Due(now); !slices.Equal(l, want) {
		t.Errorf("P19.1: Due(%d): %v; want %v", now, l, want)
	}
}

func TestDue(t *testing.T) {
	c := New()
	wantDue(t, c, 1<<63-1)
	wantAll(t, c)
	for i, when := range []int{5, 3, 5, 0, -2, 3, 1<<63 - 1} {
		c.Add(when, 100+i)
	}
	wantAll(t, c, 104, 103, 101, 105, 100, 102, 106)
	wantDue(t, c, -3)
	wantDue(t, c, 2, 104, 103)
	wantDue(t, c, 2)
	wantAll(t, c, 101, 105, 100, 102, 106)
	wantDue(t, c, 3, 101, 105)
	c.Add(5, 7)
	c.Add(4, 100)
	wantAll(t, c, 100, 100, 102, 7, 106)
	wantDue(t, c, 5, 100, 100, 102, 7)
	wantDue(t, c, 1<<63-1, 106)
	wantAll(t, c)
}

func TestManyAlike(t *testing.T) {
	type one struct{ when, at int }
	r := rand.New(rand.NewSource(1))
	c := New()
	var want []one
	for i := range 2_000 {
		when := r.Intn(40)
		c.Add(when, i)
		want = append(want, one{when, i})
		if i%90 == 0 {
			now := r.Intn(12)
			slices.SortStableFunc(want, func(x, y one) int { return x.when - y.when })
			var due []int
			for len(want) > 0 && want[0].when <= now {
				due = append(due, want[0].at)
				want = want[1:]
			}
			wantDue(t, c, now, due...)
		}
	}
	slices.SortStableFunc(want, func(x, y one) int { return x.when - y.when })
	var all []int
	for _, x := range want {
		all = append(all, x.at)
	}
	wantAll(t, c, all...)
	wantDue(t, c, 40, all...)
}

func TestAllIsNewMemory(t *testing.T) {
	c := New()
	c.Add(1, 2)
	c.All()[0] = 9
	wantAll(t, c, 2)
}

func TestNilAndEmpty(t *testing.T) {
	var c *Clock
	c.Add(1, 2)
	wantDue(t, c, 9)
	wantAll(t, c)
	e := &Clock{}
	e.Add(1, 2)
	wantDue(t, e, 1, 2)
}
