package sched_test

import (
	"math"
	"math/big"
	"math/rand"
	"slices"
	"testing"

	"weave/api"
	"weave/sched"
)

func task(period, cost int) api.Task { return api.Task{Period: period, Cost: cost} }

func tasks(l ...api.Task) []api.Task { return l }

func checkFits(t *testing.T, l []api.Task, budget int, want bool) {
	t.Helper()
	if got := sched.Fits(l, budget); got != want {
		t.Errorf("P5: Fits(%v, %d) = %v", l, budget, got)
	}
	if s, e := sched.New(l, budget); s == nil || e != api.OK {
		t.Errorf("P5: New(%v, %d): error %d", l, budget, e)
	}
}

func checkRefused(t *testing.T, l []api.Task, budget int) {
	t.Helper()
	if sched.Fits(l, budget) {
		t.Errorf("P5: Fits(%v, %d)", l, budget)
	}
	if s, e := sched.New(l, budget); s != nil || e != api.ErrTask {
		t.Errorf("P5: New(%v, %d): %v, error %d", l, budget, s, e)
	}
}

func TestFits(t *testing.T) {
	for _, c := range []struct {
		l      []api.Task
		budget int
		want   bool
	}{
		{tasks(task(2, 1), task(3, 2)), 1, false},
		{tasks(task(2, 1), task(3, 2)), 2, true},
		{tasks(task(2, 1), task(3, 1), task(6, 1)), 1, true},
		{tasks(task(2, 1), task(3, 1), task(6, 1), task(1000, 1)), 1, false},
		{tasks(task(2, 1), task(3, 1), task(6, 1), task(1000, 0)), 1, true},
		{tasks(task(1, 1)), 1, true},
		{tasks(task(1, 2)), 1, false},
		{tasks(task(1, 1000)), 1000, true},
		{tasks(task(1, 1001)), 1000, false},
		{tasks(task(1, api.MaxCost)), 1000, false},
		{tasks(task(100, api.MaxCost)), 1000, true},
		{tasks(task(99, api.MaxCost)), 1000, false},
		{tasks(task(1000, api.MaxCost)), 100, true},
		{tasks(task(1000, api.MaxCost)), 99, false},
		{slices.Repeat(tasks(task(1000, api.MaxCost)), 8), 800, true},
		{slices.Repeat(tasks(task(1000, api.MaxCost)), 8), 799, false},
		{slices.Repeat(tasks(task(1, api.MaxCost)), 8), 1000, false},
		{tasks(task(1, 0), task(1000, 0)), 0, true},
		{tasks(task(1, 0), task(1000, 1)), 0, false},
	} {
		checkFits(t, c.l, c.budget, c.want)
	}
}

func TestFitsOfNoTasks(t *testing.T) {
	for _, l := range [][]api.Task{nil, {}} {
		checkFits(t, l, 0, true)
		checkFits(t, l, 1, true)
		checkFits(t, l, api.MaxBudget, true)
		checkRefused(t, l, -1)
		checkRefused(t, l, api.MaxBudget+1)
	}
}

func TestNumberOfTasks(t *testing.T) {
	for n := range 20 {
		l := slices.Repeat(tasks(task(n+1, 1)), n)
		if n <= 8 {
			checkFits(t, l, 1, true)
		} else {
			checkRefused(t, l, 1)
			checkRefused(t, l, api.MaxBudget)
		}
	}
	checkRefused(t, slices.Repeat(tasks(task(1, 0)), 1<<16), 1)
}

func TestBudgets(t *testing.T) {
	l := tasks(task(2, 0))
	for _, budget := range []int{0, 1, 999, 1000} {
		checkFits(t, l, budget, true)
	}
	for _, budget := range []int{-1, -2, 1001, 1002, math.MinInt32, math.MaxInt32, math.MinInt, math.MaxInt} {
		checkRefused(t, l, budget)
	}
}

func TestWrongTasks(t *testing.T) {
	wrong := []api.Task{{}}
	for _, n := range []int{math.MinInt, math.MinInt32, -1, math.MaxInt32, math.MaxInt} {
		wrong = append(wrong, task(n, 0), task(n, 1), task(1, n), task(1000, n), task(n, n))
	}
	wrong = append(wrong, task(0, 1), task(1001, 0), task(1001, 1), task(1, 100001), task(1000, 100001))
	for _, w := range wrong {
		for place := range 8 {
			l := slices.Repeat(tasks(task(10, 1)), 8)
			l[place] = w
			checkRefused(t, l, 1)
			checkRefused(t, l, api.MaxBudget)
		}
	}
}

// hairsBreadth makes eight tasks of which the sum of costs over periods is a whole number and
// one part of the product of all periods, and tells the whole number.
func hairsBreadth() ([]api.Task, int) {
	primes := []int64{997, 991, 983, 977, 971, 967, 953, 947}
	product := big.NewInt(1)
	for _, p := range primes {
		product.Mul(product, big.NewInt(p))
	}
	var l []api.Task
	sum := new(big.Rat)
	for _, p := range primes {
		others := new(big.Int).Div(product, big.NewInt(p))
		cost := others.ModInverse(others, big.NewInt(p)).Int64()
		l = append(l, task(int(p), int(cost)))
		sum.Add(sum, big.NewRat(cost, p))
	}
	whole := new(big.Int).Div(sum.Num(), sum.Denom())
	return l, int(whole.Int64())
}

func TestFitsAtAHairsBreadth(t *testing.T) {
	l, whole := hairsBreadth()
	checkFits(t, l, whole, false)
	checkFits(t, l, whole+1, true)
	for i := range l {
		l[i].Cost = l[i].Period - l[i].Cost
	}
	checkFits(t, l, 8-whole, true)
	checkFits(t, l, 7-whole, false)
	for i := range l {
		l[i].Cost = 100*l[i].Period - l[i].Cost
	}
	checkFits(t, l, 800-8+whole, false)
	checkFits(t, l, 800-8+whole+1, true)
}

// TestFitsIsTheSum: with periods whose common multiple is small, whole numbers tell it.
func TestFitsIsTheSum(t *testing.T) {
	r := rand.New(rand.NewSource(1))
	const common = 720720
	periods := []int{1, 2, 3, 4, 5, 6, 7, 8, 9, 10, 11, 12, 13, 14, 15, 16, 720, 770, 858, 990}
	for range 20000 {
		var l []api.Task
		sum := 0
		for range r.Intn(9) {
			one := task(periods[r.Intn(len(periods))], r.Intn(20))
			l = append(l, one)
			sum += one.Cost * common / one.Period
		}
		for budget := max(0, sum/common-1); budget <= sum/common+1; budget++ {
			checkFits(t, l, budget, sum <= budget*common)
		}
	}
}
