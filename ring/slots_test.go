package ring

import "testing"

// TestSlotsComeAsNeeded: never more than the room, nor than twice what the ring ever held.
func TestSlotsComeAsNeeded(t *testing.T) {
	for _, room := range []int{1, 5, 100, 1000, 1 << 62} {
		for _, step := range []int{1, 2, 7, 150} {
			r := New[int](room)
			for range 500 {
				r.Put(make([]int, step))
				if len(r.slots) > room || len(r.slots) >= 2*r.count+step {
					t.Fatalf("P4: room for %d: %d slots for %d things", room, len(r.slots), r.count)
				}
			}
		}
	}
}

// TestSlotsAreUsedAgain: a ring that goes round needs no more than it held at most.
func TestSlotsAreUsedAgain(t *testing.T) {
	r := New[int](1 << 40)
	for range 1000 {
		r.Put(make([]int, 10))
		r.Take(10)
	}
	if len(r.slots) != 10 {
		t.Errorf("P4: %d slots for 10 things", len(r.slots))
	}
}

// TestSlotsAreMadeSeldom: a ring that is filled one by one moves its things now and then.
func TestSlotsAreMadeSeldom(t *testing.T) {
	r, made := New[int](1<<40), 0
	for range 1 << 12 {
		before := len(r.slots)
		r.Put([]int{1})
		if len(r.slots) != before {
			made++
		}
	}
	if made > 13 {
		t.Errorf("slots were made %d times", made)
	}
}
