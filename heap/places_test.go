package heap

import "testing"

func TestPlacesHoldNothingThatWasTaken(t *testing.T) {
	h := New(func(a, b *int) bool { return *a < *b })
	for n := range 9 {
		h.Push(&n)
	}
	for left := 8; left >= 0; left-- {
		h.Pop()
		for i, thing := range h.things[:cap(h.things)] {
			if (thing != nil) != (i < left) {
				t.Errorf("with %d things left, the place %d is wrong", left, i)
			}
		}
	}
}
