package weave_test

import (
	"math/big"
	"math/rand"
	"slices"
	"testing"

	"weave/api"
	"weave/weave"
)

const p uint64 = 18446744069414584321

// plainTransform reckons the sums as section 'Words' tells them, without package field.
func plainTransform(l []uint64) []uint64 {
	n, prime := len(l), new(big.Int).SetUint64(p)
	exponent := new(big.Int).SetUint64((p - 1) / uint64(n))
	root := new(big.Int).Exp(big.NewInt(7), exponent, prime)
	powers := make([]*big.Int, n)
	for i := range powers {
		powers[i] = new(big.Int).Exp(root, big.NewInt(int64(i)), prime)
	}
	out := make([]uint64, n)
	for j := range out {
		sum := new(big.Int)
		for i, v := range l {
			product := new(big.Int).SetUint64(v)
			sum.Add(sum, product.Mul(product, powers[i*j%n]))
		}
		out[j] = sum.Mod(sum, prime).Uint64()
	}
	return out
}

func randomElements(r *rand.Rand, n int) []uint64 {
	out := make([]uint64, n)
	for i := range out {
		out[i] = r.Uint64() % p
	}
	return out
}

func mustTransform(t *testing.T, l []uint64, inverse bool) []uint64 {
	t.Helper()
	out, e := weave.Transform(l, inverse)
	if e != api.OK {
		t.Fatalf("P3: Transform of %d elements: error %d", len(l), e)
	}
	return out
}

func TestTransformExamples(t *testing.T) {
	for _, c := range []struct {
		l       []uint64
		inverse bool
		want    []uint64
	}{
		{[]uint64{1, 0, 0, 0}, false, []uint64{1, 1, 1, 1}},
		{[]uint64{0, 1}, false, []uint64{1, p - 1}},
		{[]uint64{1, p - 1}, true, []uint64{0, 1}},
		{[]uint64{0}, false, []uint64{0}},
		{[]uint64{p - 1}, false, []uint64{p - 1}},
		{[]uint64{p - 1}, true, []uint64{p - 1}},
		{[]uint64{p - 1, p - 1}, false, []uint64{p - 2, 0}},
		{[]uint64{4, 0, 0, 0}, true, []uint64{1, 1, 1, 1}},
	} {
		if got := mustTransform(t, c.l, c.inverse); !slices.Equal(got, c.want) {
			t.Errorf("P3: Transform(%v, %v) = %v, want %v", c.l, c.inverse, got, c.want)
		}
	}
}

func TestTransformIsTheSums(t *testing.T) {
	r := rand.New(rand.NewSource(1))
	for log := range api.MaxLog + 1 {
		l := randomElements(r, 1<<log)
		want := plainTransform(l)
		if got := mustTransform(t, l, false); !slices.Equal(got, want) {
			t.Errorf("P3: the transform of %d elements is wrong", len(l))
		}
		if got := mustTransform(t, want, true); !slices.Equal(got, l) {
			t.Errorf("P3: the inverse transform of %d elements is wrong", len(l))
		}
	}
}

func TestTransformOfTheGreatestElements(t *testing.T) {
	for log := range api.MaxLog + 1 {
		l := slices.Repeat([]uint64{p - 1}, 1<<log)
		want := make([]uint64, len(l))
		want[0] = p - uint64(len(l))
		if got := mustTransform(t, l, false); !slices.Equal(got, want) {
			t.Errorf("P3: of %d elements P - 1: the transform is wrong", len(l))
		}
		if got := mustTransform(t, want, true); !slices.Equal(got, l) {
			t.Errorf("P3: of %d elements P - 1: the inverse transform is wrong", len(l))
		}
	}
}

func TestTransformSizes(t *testing.T) {
	sizes := []int{1, 2, 4, 8, 16, 32, 64, 128, 256, 512, 1024}
	lengths := []int{2047, 2048, 2049, 4096, 1 << 16, 1 << 20}
	for n := range 1300 {
		lengths = append(lengths, n)
	}
	for _, n := range lengths {
		for _, inverse := range []bool{false, true} {
			l, e := weave.Transform(make([]uint64, n), inverse)
			if slices.Contains(sizes, n) {
				if e != api.OK || !slices.Equal(l, make([]uint64, n)) {
					t.Errorf("P3: of %d elements 0: %d elements, error %d", n, len(l), e)
				}
			} else if e != api.ErrSize || l != nil {
				t.Errorf("P3: of %d elements: %v, error %d, want ErrSize", n, l, e)
			}
		}
	}
}

func TestTransformOfNoElement(t *testing.T) {
	for log := range api.MaxLog + 1 {
		n := 1 << log
		for _, place := range []int{0, n / 2, n - 1} {
			for _, v := range []uint64{p, p + 1, 1<<64 - 1} {
				for _, inverse := range []bool{false, true} {
					l := make([]uint64, n)
					l[place] = v
					if got, e := weave.Transform(l, inverse); e != api.ErrValue || got != nil {
						t.Errorf("P3: of %d elements with %d at %d: %v, error %d, want ErrValue", n, v, place, got, e)
					}
				}
			}
		}
	}
}

func TestTransformTellsTheFirstError(t *testing.T) {
	for _, n := range []int{3, 1025, 2048} {
		l := slices.Repeat([]uint64{p}, n)
		if got, e := weave.Transform(l, false); e != api.ErrSize || got != nil {
			t.Errorf("P1: of %d numbers P: %v, error %d, want ErrSize", n, got, e)
		}
	}
}

func TestTransformOfNil(t *testing.T) {
	for _, l := range [][]uint64{nil, {}} {
		for _, inverse := range []bool{false, true} {
			if got, e := weave.Transform(l, inverse); e != api.ErrSize || got != nil {
				t.Errorf("P1: of an empty list: %v, error %d, want ErrSize", got, e)
			}
		}
	}
}

func TestTransformLeavesItsListAlone(t *testing.T) {
	r := rand.New(rand.NewSource(2))
	for log := range api.MaxLog + 1 {
		for _, inverse := range []bool{false, true} {
			n := 1 << log
			whole := randomElements(r, 2*n+3)
			before := slices.Clone(whole)
			out := mustTransform(t, whole[:n], inverse)
			kept := slices.Clone(out)
			if !slices.Equal(whole, before) {
				t.Errorf("P1: a list of %d elements, or its spare room, was changed", n)
			}
			clear(whole)
			if !slices.Equal(out, kept) {
				t.Errorf("P1: the answer of %d elements shares memory with the list", n)
			}
			if again := mustTransform(t, before[:n], inverse); !slices.Equal(again, kept) {
				t.Errorf("P1: a list of %d elements was kept", n)
			}
		}
	}
}

func TestTransformAnswersInNewMemory(t *testing.T) {
	r := rand.New(rand.NewSource(3))
	for log := range api.MaxLog + 1 {
		for _, inverse := range []bool{false, true} {
			l := randomElements(r, 1<<log)
			own := slices.Clone(l)
			first := mustTransform(t, l, inverse)
			want := slices.Clone(first)
			second := mustTransform(t, l, inverse)
			clear(first[:cap(first)])
			third := mustTransform(t, l, inverse)
			if !slices.Equal(second, want) || !slices.Equal(third, want) || !slices.Equal(l, own) {
				t.Errorf("P1: an answer of %d elements shares memory with the list or another answer", len(l))
			}
		}
	}
}

func TestTransformHangsOnItsArgumentsAlone(t *testing.T) {
	r := rand.New(rand.NewSource(4))
	var lists, want [][]uint64
	for log := range api.MaxLog + 1 {
		lists = append(lists, randomElements(r, 1<<log))
		want = append(want, mustTransform(t, lists[log], log%2 == 0))
	}
	done := make(chan bool)
	for range 4 {
		go func() {
			same := true
			for i, l := range lists {
				weave.Transform(l[:len(l)/2], i%2 == 1)
				weave.Transform([]uint64{p, p}, i%2 == 1)
				got, e := weave.Transform(l, i%2 == 0)
				same = same && e == api.OK && slices.Equal(got, want[i])
			}
			done <- same
		}()
	}
	for range 4 {
		if !<-done {
			t.Error("P1: other calls changed an answer")
		}
	}
}
