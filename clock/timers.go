package clock

import "cmp"

// timer has a turn, since those of one time are due in the order in which they came.
type timer struct{ when, turn, at int }

// timers are kept so that the first one is due first.
type timers []timer

func compare(x, y timer) int {
	return cmp.Or(cmp.Compare(x.when, y.when), cmp.Compare(x.turn, y.turn))
}

func (l timers) Len() int           { return len(l) }
func (l timers) Less(i, j int) bool { return compare(l[i], l[j]) < 0 }
func (l timers) Swap(i, j int)      { l[i], l[j] = l[j], l[i] }

// Push keeps x, which is the clock's own.
func (l *timers) Push(x any) {
	if t, ok := x.(timer); ok {
		*l = append(*l, t)
	}
}

// Pop takes out the last one.
func (l *timers) Pop() any {
	last := len(*l) - 1
	t := (*l)[last]
	*l = (*l)[:last]
	return t
}
