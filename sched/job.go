package sched

import "weave/heap"

// job is what is left of the work that a task brought with a tick.
type job struct {
	task, due, left int
}

// before is the order of jobs. No two of them are alike in it: a task's job is done or given
// up when the next one begins.
func (j job) before(other job) bool {
	if j.due != other.due {
		return j.due < other.due
	}
	return j.task < other.task
}

func newJobs() *heap.Heap[job] {
	return heap.New(job.before)
}

// work spends a budget, and tells the task of each unit. No job begins meanwhile, so the one
// that is due first stays so until it is done: its units need not be looked at one by one.
func work(jobs *heap.Heap[job], budget int) []int {
	var units []int
	for budget > 0 {
		j, ok := jobs.Pop()
		if !ok {
			break
		}
		n := min(j.left, budget)
		for range n {
			units = append(units, j.task)
		}
		budget -= n
		j.left -= n
		if j.left > 0 {
			jobs.Push(j)
		}
	}
	return units
}
