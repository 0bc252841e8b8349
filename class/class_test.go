package class

import (
	"testing"

	"dormouse/api"
)

func TestOf(t *testing.T) {
	for n, want := range map[int]int{0: 0, 3: 0, 4: 1, 7: 1, 8: 2, 15: 2, 16: 3, 31: 3} {
		if got, ok := Of(n); got != want || !ok {
			t.Errorf("P5.1: Of(%d) = %d, %v; want %d", n, got, ok, want)
		}
	}
	for _, n := range []int{-1, -4, 32, 33, 1<<63 - 1, -1 << 63} {
		if got, ok := Of(n); got != 0 || ok {
			t.Errorf("P5.1: Of(%d) = %d, %v; want none", n, got, ok)
		}
	}
}

func TestWordsAndSlots(t *testing.T) {
	for class, want := range []int{4, 8, 16, 32} {
		if Words(class) != want || Slots(class) != api.SpanWords/want {
			t.Errorf("P5.1: class %d: %d words, %d slots", class, Words(class), Slots(class))
		}
	}
	for _, class := range []int{-1, 4, 1 << 40, -1 << 63} {
		if Words(class) != 0 || Slots(class) != 0 {
			t.Errorf("P5.1: class %d: %d words, %d slots; want none", class, Words(class), Slots(class))
		}
	}
}

func TestFitsIntoTheNextOne(t *testing.T) {
	for n := range 31 {
		less, _ := Of(n)
		more, ok := Of(n + 1)
		if !ok || more < less || Words(less) > Words(more) {
			t.Errorf("what fits into a class fits into the next one: %d words", n)
		}
	}
}
