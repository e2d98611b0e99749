package weave_test

import (
	"math"
	"math/rand"
	"slices"
	"testing"

	"weave/api"
	"weave/weave"
)

func plainConvolve(a, b []int) []int {
	out := make([]int, len(a)+len(b)-1)
	for i := range a {
		for j := range b {
			out[i+j] += a[i] * b[j]
		}
	}
	return out
}

func randomFactors(r *rand.Rand, n int) []int {
	out := make([]int, n)
	for i := range out {
		out[i] = r.Intn(65536) - 32768
	}
	return out
}

func checkConvolve(t *testing.T, a, b []int) {
	t.Helper()
	got, e := weave.Convolve(a, b)
	if e != api.OK || !slices.Equal(got, plainConvolve(a, b)) {
		t.Errorf("P3: Convolve of %d and %d numbers is wrong: error %d", len(a), len(b), e)
	}
}

func checkConvolveFails(t *testing.T, a, b []int, want api.Errno) {
	t.Helper()
	if got, e := weave.Convolve(a, b); e != want || got != nil {
		t.Errorf("P3: Convolve of %d and %d numbers: %v, error %d, want error %d", len(a), len(b), got, e, want)
	}
}

func TestConvolveExample(t *testing.T) {
	got, e := weave.Convolve([]int{1, 2, 3}, []int{0, 1, -1})
	if want := []int{0, 1, 1, 1, -3}; e != api.OK || !slices.Equal(got, want) {
		t.Errorf("P3: Convolve = %v, error %d, want %v", got, e, want)
	}
}

func TestConvolveAtAllSmallLengths(t *testing.T) {
	r := rand.New(rand.NewSource(1))
	for n := 1; n <= 20; n++ {
		for m := 1; m <= 20; m++ {
			checkConvolve(t, randomFactors(r, n), randomFactors(r, m))
		}
	}
}

// TestConvolveAroundPowersOfTwo: here the sums just fill a transform, or just do not.
func TestConvolveAroundPowersOfTwo(t *testing.T) {
	r := rand.New(rand.NewSource(2))
	for log := 1; log <= api.MaxLog; log++ {
		for together := 1<<log - 1; together <= min(1<<log+2, 1025); together++ {
			for _, n := range []int{1, together / 2, together - 1} {
				if n > 0 && n < together {
					checkConvolve(t, randomFactors(r, n), randomFactors(r, together-n))
				}
			}
		}
	}
}

func TestConvolveOfExtremes(t *testing.T) {
	for _, x := range []int{-32768, 32767} {
		for _, y := range []int{-32768, 32767} {
			for _, n := range []int{1, 2, 512, 513, 1024} {
				checkConvolve(t, slices.Repeat([]int{x}, n), slices.Repeat([]int{y}, 1025-n))
			}
		}
	}
}

func TestConvolveLengths(t *testing.T) {
	lengths := []int{0, 1, 2, 3, 511, 512, 513, 514, 1022, 1023, 1024, 1025, 1026, 2048, 1 << 16}
	for _, n := range lengths {
		for _, m := range lengths {
			a, b := make([]int, n), make([]int, m)
			if n == 0 || m == 0 || n+m > 1025 {
				checkConvolveFails(t, a, b, api.ErrSize)
			} else {
				checkConvolve(t, a, b)
			}
		}
	}
}

func TestConvolveOfNil(t *testing.T) {
	one := []int{1}
	for _, empty := range [][]int{nil, {}} {
		checkConvolveFails(t, empty, one, api.ErrSize)
		checkConvolveFails(t, one, empty, api.ErrSize)
		checkConvolveFails(t, empty, empty, api.ErrSize)
		checkConvolveFails(t, nil, empty, api.ErrSize)
	}
}

func TestConvolveOfTooGreatNumbers(t *testing.T) {
	for _, n := range []int{-32769, 32768, -65536, 65536, math.MinInt32, math.MaxInt32, math.MinInt, math.MaxInt} {
		for place := range 3 {
			wrong, right := make([]int, 3), make([]int, 1022)
			wrong[place] = n
			checkConvolveFails(t, wrong, right, api.ErrValue)
			checkConvolveFails(t, right, wrong, api.ErrValue)
			checkConvolveFails(t, wrong, wrong, api.ErrValue)
		}
	}
}

func TestConvolveTellsTheFirstError(t *testing.T) {
	wrong := slices.Repeat([]int{32768}, 513)
	checkConvolveFails(t, wrong, nil, api.ErrSize)
	checkConvolveFails(t, nil, wrong, api.ErrSize)
	checkConvolveFails(t, wrong, wrong, api.ErrSize)
}

func TestConvolveLeavesItsListsAlone(t *testing.T) {
	r := rand.New(rand.NewSource(3))
	for _, n := range []int{1, 2, 7, 64, 512} {
		whole := randomFactors(r, 4*n)
		before := slices.Clone(whole)
		// The second list is the first one's spare room, and both share memory in the midst.
		a, b := whole[:n], whole[n/2:2*n]
		if n > 100 {
			b = whole[n/2 : n+10]
		}
		want := plainConvolve(a, b)
		got, e := weave.Convolve(a, b)
		if e != api.OK || !slices.Equal(got, want) || !slices.Equal(whole, before) {
			t.Errorf("P1: a list of %d numbers, or its spare room, was changed: error %d", n, e)
		}
		clear(whole)
		if !slices.Equal(got, want) {
			t.Errorf("P1: the answer of %d numbers shares memory with a list", n)
		}
		a, b = before[:n], before[n/2:n/2+len(b)]
		if again, e := weave.Convolve(a, b); e != api.OK || !slices.Equal(again, want) {
			t.Errorf("P1: a list of %d numbers was kept", n)
		}
	}
}

func TestConvolveAnswersInNewMemory(t *testing.T) {
	r := rand.New(rand.NewSource(4))
	for _, n := range []int{1, 2, 7, 64, 512} {
		a, b := randomFactors(r, n), []int{1}
		own, want := slices.Clone(a), plainConvolve(a, b)
		first, _ := weave.Convolve(a, b)
		second, _ := weave.Convolve(a, b)
		clear(first[:cap(first)])
		third, _ := weave.Convolve(a, b)
		if !slices.Equal(second, want) || !slices.Equal(third, want) || !slices.Equal(a, own) || b[0] != 1 {
			t.Errorf("P1: an answer of %d numbers shares memory with a list or another answer", n)
		}
	}
}

func TestConvolveHangsOnItsArgumentsAlone(t *testing.T) {
	r := rand.New(rand.NewSource(5))
	a, b := randomFactors(r, 300), randomFactors(r, 200)
	want := plainConvolve(a, b)
	done := make(chan bool)
	for range 4 {
		go func() {
			same := true
			for n := 1; n <= 200; n++ {
				weave.Convolve(a[:n], b)
				weave.Convolve(a, nil)
				got, e := weave.Convolve(a, b)
				same = same && e == api.OK && slices.Equal(got, want)
			}
			done <- same
		}()
	}
	for range 4 {
		if !<-done {
			t.Error("P1: other calls changed an answer")
		}
	}
}
