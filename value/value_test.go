package value

import "testing"

const (
	most  = 1<<63 - 1
	least = -1 << 63
)

func TestNumbers(t *testing.T) {
	for _, v := range []int{0, 1, -1, 7, 1 << 40, -1 << 40, 1<<62 - 1, -1 << 62} {
		w := Int(v)
		if w != 2*v || IsPtr(w) || Num(w) != v || At(w) != -1 {
			t.Errorf("P4.1: the number %d: %d, %v, %d, %d", v, w, IsPtr(w), Num(w), At(w))
		}
	}
}

func TestPlaces(t *testing.T) {
	for _, at := range []int{0, 1, 5, 4095, -1, -2, 1<<62 - 1, -1 << 62} {
		w := Ptr(at)
		if w != 2*at+1 || !IsPtr(w) || Num(w) != 0 || At(w) != at {
			t.Errorf("P4.1: the place %d: %d, %v, %d, %d", at, w, IsPtr(w), Num(w), At(w))
		}
	}
	if Ptr(5) != 11 {
		t.Errorf("P4.1: Ptr(5) = %d", Ptr(5))
	}
}

func TestGoesRound(t *testing.T) {
	great := 1 << 62
	if Int(great) != least || Int(most) != -2 || Ptr(great) != least+1 || Ptr(most) != -1 {
		t.Errorf("P4.1: %d, %d, %d, %d", Int(great), Int(most), Ptr(great), Ptr(most))
	}
	if Num(least) != -1<<62 || At(most) != 1<<62-1 || At(-1) != -1 || At(-3) != -2 || Num(-2) != -1 {
		t.Errorf("P4.1: words at the ends: %d, %d, %d, %d, %d", Num(least), At(most), At(-1), At(-3), Num(-2))
	}
}
