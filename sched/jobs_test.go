package sched

import (
	"testing"

	"weave/api"
)

func TestTickGivesItsJobsBack(t *testing.T) {
	s, _ := New([]api.Task{{Period: 2, Cost: 1}, {Period: 3, Cost: 2}}, 1)
	jobs := s.jobs
	for i := range 20 {
		s.Tick()
		if s.jobs == nil || s.jobs != jobs {
			t.Fatalf("tick %d did not give its jobs back", i)
		}
	}
}

// TestTickGivesItsJobsBackInAPanic: a way out too. No call gets there: a task without a
// period is refused ahead.
func TestTickGivesItsJobsBackInAPanic(t *testing.T) {
	jobs := newJobs()
	s := &Sched{tasks: make([]api.Task, 1), jobs: jobs}
	defer func() {
		if recover() == nil {
			t.Error("a task without a period went through")
		}
		if s.jobs != jobs {
			t.Error("the jobs were not given back")
		}
	}()
	s.Tick()
}

func TestJobsAreLentOnce(t *testing.T) {
	s, _ := New(nil, 1)
	if s.borrow() == nil || s.borrow() != nil {
		t.Error("the jobs were lent twice at a time")
	}
}

// TestJobsDoNotPileUp: of each task there is one job at most, however much is missed.
func TestJobsDoNotPileUp(t *testing.T) {
	s, _ := New([]api.Task{{Period: 1, Cost: 9}, {Period: 2, Cost: 9}, {Period: 3, Cost: 0}}, 1)
	for range 100 {
		s.Tick()
	}
	count := 0
	for _, ok := s.jobs.Pop(); ok; _, ok = s.jobs.Pop() {
		count++
	}
	if count != 2 {
		t.Errorf("%d jobs are there", count)
	}
}

func TestOrderOfJobs(t *testing.T) {
	l := []job{{task: 3, due: 4}, {task: 0, due: 5}, {task: 1, due: 5}, {task: 7, due: 5}, {task: 2, due: 9}}
	for i, a := range l {
		for k, b := range l {
			if a.before(b) != (i < k) {
				t.Errorf("%v before %v: %v", a, b, a.before(b))
			}
		}
	}
}
