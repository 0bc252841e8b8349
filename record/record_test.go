package record

import (
	"slices"
	"strings"
	"testing"

	"dormouse/api"
)

func TestNeed(t *testing.T) {
	for kind, want := range map[int]int{api.KChan: 9, api.KSudog: 7, api.KGor: 10, api.KBox: 2, api.KTimer: 2} {
		for _, n := range []int{0, 3, -1, 99} {
			if got, ok := Need(kind, n); got != want || !ok {
				t.Errorf("P10.1: Need(%d, %d) = %d, %v; want %d", kind, n, got, ok, want)
			}
		}
	}
	for n := range api.MaxCap + 1 {
		if got, ok := Need(api.KBuf, n); got != n || !ok {
			t.Errorf("P10.1: Need of a KBuf of %d: %d, %v", n, got, ok)
		}
	}
	for _, c := range [][2]int{{api.KBuf, -1}, {api.KBuf, api.MaxCap + 1}, {api.KBuf, 1 << 62}, {0, 0}, {7, 0}, {-1, 2}, {1 << 62, 1}} {
		if got, ok := Need(c[0], c[1]); got != 0 || ok {
			t.Errorf("P10.1: Need%v = %d, %v; want none", c, got, ok)
		}
	}
}

func TestFields(t *testing.T) {
	for kind, want := range map[int]string{
		api.KChan:  "cap closed count start buf takehead taketail sendhead sendtail",
		api.KSudog: "gor chan value next to reg more",
		api.KGor:   "id status pc a b c d e f sudogs",
		api.KBox:   "value final",
		api.KTimer: "when chan",
	} {
		got := Fields(kind)
		if !slices.Equal(got, strings.Split(want, " ")) {
			t.Errorf("P10.1: Fields(%d) = %q; want %s", kind, got, want)
		}
		if n, _ := Need(kind, 0); n != len(got) {
			t.Errorf("as many names as words: %d of %d", len(got), n)
		}
	}
	for _, kind := range []int{api.KBuf, 0, -1, 7, 1 << 62} {
		if got := Fields(kind); len(got) != 0 {
			t.Errorf("P10.1: Fields(%d) = %q; want nothing", kind, got)
		}
	}
}
