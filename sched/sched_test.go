package sched_test

import (
	"math/rand"
	"slices"
	"testing"

	"weave/api"
	"weave/sched"
)

func mustNew(t *testing.T, l []api.Task, budget int) *sched.Sched {
	t.Helper()
	s, e := sched.New(l, budget)
	if s == nil || e != api.OK {
		t.Fatalf("P5: New(%v, %d): error %d", l, budget, e)
	}
	return s
}

// plainJob and plainSched do what P6 says, word for word: without a heap, unit by unit.
type plainJob struct {
	task, due, left int
}

type plainSched struct {
	tasks       []api.Task
	budget, now int
	missed      int
	jobs        []*plainJob
}

func (p *plainSched) tick() []int {
	for _, j := range p.jobs {
		if j.due == p.now && j.left > 0 {
			p.missed++
			j.left = 0
		}
	}
	p.jobs = slices.DeleteFunc(p.jobs, func(j *plainJob) bool { return j.left == 0 })
	for i, one := range p.tasks {
		if p.now%one.Period == 0 {
			p.jobs = append(p.jobs, &plainJob{i, p.now + one.Period, one.Cost})
		}
	}
	p.now++
	var units []int
	for range p.budget {
		if first := p.first(); first != nil {
			first.left--
			units = append(units, first.task)
		}
	}
	return units
}

func (p *plainSched) first() *plainJob {
	var first *plainJob
	for _, j := range p.jobs {
		if j.left == 0 {
			continue
		}
		if first == nil || j.due < first.due || j.due == first.due && j.task < first.task {
			first = j
		}
	}
	return first
}

func checkTicks(t *testing.T, l []api.Task, budget, ticks int) {
	t.Helper()
	s, plain := mustNew(t, l, budget), &plainSched{tasks: l, budget: budget}
	for i := range ticks {
		if got, want := s.Tick(), plain.tick(); !slices.Equal(got, want) {
			t.Fatalf("P6: %v with %d: tick %d is %v, want %v", l, budget, i, got, want)
		}
		if got := s.Missed(); got != plain.missed {
			t.Fatalf("P6: %v with %d: up to tick %d %d were missed, want %d", l, budget, i, got, plain.missed)
		}
	}
}

func randomTasks(r *rand.Rand, most, period, cost int) []api.Task {
	var l []api.Task
	for range r.Intn(most + 1) {
		l = append(l, task(1+r.Intn(period), r.Intn(cost+1)))
	}
	return l
}

func TestTickExamples(t *testing.T) {
	for _, c := range []struct {
		l      []api.Task
		budget int
		want   [][]int
		missed []int // behind each tick
	}{
		{tasks(task(2, 1), task(3, 2)), 1,
			[][]int{{0}, {1}, {1}, {0}, {0}, {1}, {0}}, []int{0, 0, 0, 0, 0, 0, 1}},
		{tasks(task(3, 2), task(2, 1)), 2,
			[][]int{{1, 0}, {0}, {1}, {0, 0}, {1}, nil, {1, 0}}, []int{0, 0, 0, 0, 0, 0, 0}},
		{tasks(task(4, 1), task(4, 1), task(2, 1)), 1,
			[][]int{{2}, {0}, {1}, {2}, {2}}, []int{0, 0, 0, 0, 0}},
		{tasks(task(1, 1), task(1, 1), task(1, 1)), 2,
			[][]int{{0, 1}, {0, 1}, {0, 1}}, []int{0, 1, 2}},
		{tasks(task(1, 2)), 1, [][]int{{0}, {0}, {0}}, []int{0, 1, 2}},
		{tasks(task(3, 2)), 5, [][]int{{0, 0}, nil, nil, {0, 0}}, []int{0, 0, 0, 0}},
		{tasks(task(2, 1)), 0, [][]int{nil, nil, nil, nil, nil}, []int{0, 0, 1, 1, 2}},
		{tasks(task(1, 0)), 0, [][]int{nil, nil, nil}, []int{0, 0, 0}},
		{tasks(task(1, 0), task(2, 3)), 1, [][]int{{1}, {1}, {1}, {1}, {1}}, []int{0, 0, 1, 1, 2}},
		{nil, 0, [][]int{nil, nil}, []int{0, 0}},
		{nil, 1000, [][]int{nil, nil}, []int{0, 0}},
	} {
		s := mustNew(t, c.l, c.budget)
		if n := s.Missed(); n != 0 {
			t.Errorf("P6: %v with %d: %d were missed ahead of the first tick", c.l, c.budget, n)
		}
		for i, want := range c.want {
			if got := s.Tick(); !slices.Equal(got, want) {
				t.Errorf("P6: %v with %d: tick %d is %v, want %v", c.l, c.budget, i, got, want)
			}
			if got := s.Missed(); got != c.missed[i] {
				t.Errorf("P6: %v with %d: up to tick %d %d were missed, want %d", c.l, c.budget, i, got, c.missed[i])
			}
		}
	}
}

func TestTicksOfManyTasks(t *testing.T) {
	r := rand.New(rand.NewSource(2))
	for range 3000 {
		checkTicks(t, randomTasks(r, 8, 12, 9), r.Intn(15), 60)
	}
	for range 300 {
		checkTicks(t, randomTasks(r, 8, 3, 2), r.Intn(4), 60)
	}
	for range 30 {
		checkTicks(t, randomTasks(r, 8, 100, 2000), r.Intn(200), 300)
	}
}

func TestTicksAtTheLimits(t *testing.T) {
	most := task(api.MaxPeriod, api.MaxCost)
	checkTicks(t, tasks(most), 100, 2001)
	checkTicks(t, tasks(most), 99, 2001)
	checkTicks(t, slices.Repeat(tasks(most), 8), 800, 1001)
	checkTicks(t, slices.Repeat(tasks(most), 8), 1000, 1001)
	checkTicks(t, slices.Repeat(tasks(task(1, api.MaxCost)), 8), 1000, 20)
	checkTicks(t, tasks(task(1, 1), most, task(999, 1), task(1000, 0)), 100, 2001)
}

// TestTickMissesOnlyWhatIsDue: what is late by one unit is missed with the tick at which it
// is due, not ahead of it and not behind it.
func TestTickMissesOnlyWhatIsDue(t *testing.T) {
	for period := 1; period <= 20; period++ {
		for _, late := range []int{0, 1} {
			s := mustNew(t, tasks(task(period, 3*period+late)), 3)
			for tick := range 3*period + 1 {
				if got := s.Tick(); !slices.Equal(got, []int{0, 0, 0}) {
					t.Errorf("P6: a tick is %v", got)
				}
				if got := s.Missed(); got != late*(tick/period) {
					t.Errorf("P6: of the period %d, at tick %d: %d were missed", period, tick, got)
				}
			}
		}
	}
}

func TestMissedChangesNothing(t *testing.T) {
	l := tasks(task(2, 1), task(3, 2), task(5, 4))
	s, asked := mustNew(t, l, 1), mustNew(t, l, 1)
	for i := range 100 {
		for range i % 5 {
			asked.Missed()
		}
		if a, b := s.Tick(), asked.Tick(); !slices.Equal(a, b) || s.Missed() != asked.Missed() {
			t.Fatalf("P6: tick %d is %v, and %v if it was asked what was missed", i, a, b)
		}
	}
}

func TestNoneIsMissedOfTasksThatFit(t *testing.T) {
	r := rand.New(rand.NewSource(3))
	fit, full := 0, 0
	for range 30000 {
		l, budget := randomTasks(r, 8, 10, 12), r.Intn(12)
		if !sched.Fits(l, budget) {
			continue
		}
		fit++
		if budget > 0 && len(l) < 8 && !sched.Fits(append(l, task(1000, 1)), budget) {
			full++
		}
		s := mustNew(t, l, budget)
		for range 200 {
			s.Tick()
		}
		if n := s.Missed(); n != 0 {
			t.Fatalf("P7: %v fit %d, but %d were missed", l, budget, n)
		}
	}
	if fit < 1000 || full < 10 {
		t.Errorf("only %d fit, %d of them without anything to spare", fit, full)
	}
}

// TestNoneIsMissedWithNothingToSpare: each unit of each tick is needed, all the way.
func TestNoneIsMissedWithNothingToSpare(t *testing.T) {
	for _, c := range []struct {
		l      []api.Task
		budget int
	}{
		{tasks(task(2, 1), task(3, 1), task(6, 1)), 1},
		{tasks(task(6, 1), task(3, 1), task(2, 1)), 1},
		{tasks(task(7, 3), task(5, 2), task(35, 6)), 1},
		{tasks(task(1000, api.MaxCost), task(999, 99900), task(1, 800)), 1000},
		{slices.Repeat(tasks(task(8, 1)), 8), 1},
		{slices.Repeat(tasks(task(1000, api.MaxCost)), 8), 800},
	} {
		checkFits(t, c.l, c.budget, true)
		s := mustNew(t, c.l, c.budget)
		for i := range 3000 {
			if n := len(s.Tick()); n != c.budget {
				t.Fatalf("P6: %v with %d: %d units in tick %d", c.l, c.budget, n, i)
			}
		}
		if n := s.Missed(); n != 0 {
			t.Errorf("P7: %v fit %d, but %d were missed", c.l, c.budget, n)
		}
	}
}
