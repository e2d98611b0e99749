package field_test

import (
	"math"
	"math/big"
	"math/rand"
	"testing"

	"weave/field"
)

const p uint64 = 18446744069414584321

// edges holds elements at the ends, where 32 and 64 bits end, and numbers that are no elements.
var edges = []uint64{
	0, 1, 2, 3, 7, 1<<31 - 1, 1 << 31, 1<<32 - 2, 1<<32 - 1, 1 << 32, 1<<32 + 1, 1 << 33,
	1<<63 - 1, 1 << 63, 1<<63 + 1, (p - 3) / 2, (p - 1) / 2, (p + 1) / 2, (p + 3) / 2,
	p - 1<<32, p - 2, p - 1, p, p + 1, p + 2, 1<<64 - 2, 1<<64 - 1,
}

func reduced(n *big.Int) uint64 {
	return new(big.Int).Mod(n, new(big.Int).SetUint64(p)).Uint64()
}

func whole(a uint64) *big.Int { return new(big.Int).SetUint64(a) }

func checkPair(t *testing.T, a, b uint64) {
	t.Helper()
	x, y := whole(a), whole(b)
	if got, want := field.Add(a, b), reduced(new(big.Int).Add(x, y)); got != want {
		t.Fatalf("P2: Add(%d, %d) = %d, want %d", a, b, got, want)
	}
	if got, want := field.Sub(a, b), reduced(new(big.Int).Sub(x, y)); got != want {
		t.Fatalf("P2: Sub(%d, %d) = %d, want %d", a, b, got, want)
	}
	if got, want := field.Mul(a, b), reduced(new(big.Int).Mul(x, y)); got != want {
		t.Fatalf("P2: Mul(%d, %d) = %d, want %d", a, b, got, want)
	}
}

func checkPow(t *testing.T, a, n uint64) {
	t.Helper()
	want := new(big.Int).Exp(new(big.Int).SetUint64(reduced(whole(a))), whole(n), whole(p)).Uint64()
	if got := field.Pow(a, n); got != want {
		t.Fatalf("P2: Pow(%d, %d) = %d, want %d", a, n, got, want)
	}
}

func TestExamples(t *testing.T) {
	for _, c := range []struct {
		name      string
		got, want uint64
	}{
		{"Mul(4294967296, 4294967296)", field.Mul(4294967296, 4294967296), 4294967295},
		{"Embed(-1)", field.Embed(-1), p - 1},
		{"Root(2)", field.Root(2), p - 1},
		{"Inv(2)", field.Inv(2), 9223372034707292161},
	} {
		if c.got != c.want {
			t.Errorf("P2: %s = %d, want %d", c.name, c.got, c.want)
		}
	}
	if got := field.Lift(p - 1); got != -1 {
		t.Errorf("P2: Lift(P - 1) = %d, want -1", got)
	}
}

func TestPairsAtTheEdges(t *testing.T) {
	for _, a := range edges {
		for _, b := range edges {
			checkPair(t, a, b)
		}
	}
}

func TestPairsAtRandom(t *testing.T) {
	r := rand.New(rand.NewSource(7))
	for range 50000 {
		a, b := r.Uint64(), r.Uint64()
		checkPair(t, a, b)
		// Near the ends carries and borrows are common, which they are not elsewhere.
		checkPair(t, p-1-a>>40, p-1-b>>40)
		checkPair(t, a>>40, p-1-b>>40)
		checkPair(t, a>>40, -(b >> 40))
	}
}

func TestPow(t *testing.T) {
	exponents := append([]uint64{4, 5, 63, 64, 96, 192}, edges...)
	for _, a := range edges {
		for _, n := range exponents {
			checkPow(t, a, n)
		}
	}
	r := rand.New(rand.NewSource(8))
	for range 1000 {
		checkPow(t, r.Uint64(), r.Uint64())
	}
}

func TestPowOfNothingIsOne(t *testing.T) {
	for _, a := range edges {
		if got := field.Pow(a, 0); got != 1 {
			t.Errorf("P2: Pow(%d, 0) = %d, want 1", a, got)
		}
	}
}

func TestInv(t *testing.T) {
	r := rand.New(rand.NewSource(9))
	list := append([]uint64{}, edges...)
	for range 1000 {
		list = append(list, r.Uint64())
	}
	for _, a := range list {
		got, product := field.Inv(a), uint64(1)
		if a%p == 0 {
			product = 0
		}
		if got >= p || reduced(new(big.Int).Mul(whole(a), whole(got))) != product {
			t.Errorf("P2: Inv(%d) = %d", a, got)
		}
	}
	for _, zero := range []uint64{0, p} {
		if got := field.Inv(zero); got != 0 {
			t.Errorf("P2: Inv(%d) = %d, want 0", zero, got)
		}
	}
}

func TestRoot(t *testing.T) {
	for k := range 33 {
		exponent := whole((p - 1) >> k)
		want := new(big.Int).Exp(big.NewInt(7), exponent, whole(p)).Uint64()
		if got := field.Root(1 << k); got != want {
			t.Errorf("P2: Root(2^%d) = %d, want %d", k, got, want)
		}
	}
}

func TestRootOfNoSize(t *testing.T) {
	list := []int{0, -1, -2, -1 << 32, 3, 5, 6, 7, 9, 1<<32 - 1, 1<<32 + 1, 1<<32 + 1<<31, math.MaxInt, math.MinInt, math.MinInt + 1}
	for k := 33; k < 63; k++ {
		list = append(list, 1<<k)
	}
	for _, n := range list {
		if got := field.Root(n); got != 0 {
			t.Errorf("P2: Root(%d) = %d, want 0", n, got)
		}
	}
}

func TestEmbed(t *testing.T) {
	list := []int{0, 1, -1, 2, -2, math.MaxInt32, math.MinInt32, 1 << 32, -1 << 32, math.MaxInt, math.MaxInt - 1, -math.MaxInt, math.MinInt}
	r := rand.New(rand.NewSource(10))
	for range 1000 {
		list = append(list, int(r.Uint64()))
	}
	for _, n := range list {
		if got, want := field.Embed(n), reduced(big.NewInt(int64(n))); got != want {
			t.Errorf("P2: Embed(%d) = %d, want %d", n, got, want)
		}
	}
}

func TestLift(t *testing.T) {
	half := int((p - 1) / 2)
	for a, want := range map[uint64]int{
		0: 0, 1: 1, 1 << 32: 1 << 32, (p-1)/2 - 1: half - 1, (p - 1) / 2: half,
		(p + 1) / 2: -half, (p + 3) / 2: 1 - half, p - 2: -2, p - 1: -1,
		p: 0, p + 1: 1, 1<<64 - 1: 1<<32 - 2,
	} {
		if got := field.Lift(a); got != want {
			t.Errorf("P2: Lift(%d) = %d, want %d", a, got, want)
		}
	}
}

func TestLiftTurnsEmbedBack(t *testing.T) {
	half := int((p - 1) / 2)
	r := rand.New(rand.NewSource(11))
	list := []int{0, 1, -1, half, -half}
	for range 1000 {
		list = append(list, int(r.Uint64())/4)
	}
	for _, n := range list {
		if got := field.Lift(field.Embed(n)); got != n {
			t.Errorf("P2: Lift(Embed(%d)) = %d", n, got)
		}
	}
}

// TestAnswersHangOnArgumentsAlone: P1: the same again, after all other calls, and from many at once.
func TestAnswersHangOnArgumentsAlone(t *testing.T) {
	first := answers()
	done := make(chan []uint64)
	for range 4 {
		go func() { done <- answers() }()
	}
	for range 4 {
		for i, got := range <-done {
			if got != first[i] {
				t.Errorf("P1: answer %d is %d, and was %d", i, got, first[i])
			}
		}
	}
}

func answers() []uint64 {
	var out []uint64
	for _, a := range edges {
		out = append(out, field.Inv(a), field.Root(int(a)), field.Embed(int(a)), uint64(field.Lift(a)))
		for _, b := range edges {
			out = append(out, field.Add(a, b), field.Sub(a, b), field.Mul(a, b), field.Pow(a, b))
		}
	}
	return out
}
