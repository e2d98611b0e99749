package sched_test

import (
	"slices"
	"testing"

	"weave/api"
	"weave/sched"
)

func ticks(s *sched.Sched, n int) []int {
	var out []int
	for range n {
		out = append(out, s.Tick()...)
		out = append(out, -1-s.Missed())
	}
	return out
}

func TestTasksAreNotChangedAndNotKept(t *testing.T) {
	own := tasks(task(3, 2), task(2, 1), task(5, 9), task(4, 1))
	want := ticks(mustNew(t, own[:2], 1), 50)
	whole := slices.Clone(own)
	sched.Fits(whole[:2], 1)
	s := mustNew(t, whole[:2], 1)
	if got := ticks(s, 10); !slices.Equal(got, want[:len(got)]) || !slices.Equal(whole, own) {
		t.Errorf("P1: the tasks, or their spare room, were changed: %v", whole)
	}
	fresh := mustNew(t, whole[:2], 1)
	clear(whole)
	if got := ticks(fresh, 50); !slices.Equal(got, want) {
		t.Error("P1: the tasks were kept")
	}
}

func TestTicksAreNewMemory(t *testing.T) {
	l := tasks(task(2, 3), task(3, 2), task(1, 1))
	s, other := mustNew(t, l, 4), mustNew(t, l, 4)
	var held, copies [][]int
	for i := range 50 {
		units, want := s.Tick(), other.Tick()
		if !slices.Equal(units, want) {
			t.Fatalf("P1: tick %d is %v, want %v", i, units, want)
		}
		spoilt := units[:cap(units)]
		for k := range spoilt {
			spoilt[k] = 99
		}
		held, copies = append(held, want), append(copies, slices.Clone(want))
	}
	for i := range held {
		if !slices.Equal(held[i], copies[i]) {
			t.Errorf("P1: tick %d was changed behind it", i)
		}
	}
}

func TestSchedulersDoNotHangOnEachOther(t *testing.T) {
	l := tasks(task(2, 1), task(3, 2), task(7, 3))
	want := ticks(mustNew(t, l, 1), 300)
	done := make(chan bool)
	for range 4 {
		go func() {
			same := true
			for range 20 {
				s, e := sched.New(l, 1)
				sched.New(l, -1)
				other, _ := sched.New(l[1:], 2)
				other.Tick()
				same = same && e == api.OK && !sched.Fits(l, 1) && sched.Fits(l, 2)
				same = same && slices.Equal(ticks(s, 300), want)
			}
			done <- same
		}()
	}
	for range 4 {
		if !<-done {
			t.Error("P1: other schedulers changed an answer")
		}
	}
}
