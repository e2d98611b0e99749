// Package field: numbers below the prime: see DOC.md.
package field

import "math/bits"

const (
	prime     uint64 = 1<<64 - 1<<32 + 1
	generator uint64 = 7
	maxRoot          = 1 << 32
)

// element takes the prime away once: twice the prime is more than a uint64 holds.
func element(a uint64) uint64 {
	if a >= prime {
		return a - prime
	}
	return a
}

// Add tells a sum (P2).
func Add(a, b uint64) uint64 {
	a, b = element(a), element(b)
	// The sum itself may not fit into 64 bits: what b lacks of the prime always does.
	if lack := prime - b; a >= lack {
		return a - lack
	}
	return a + b
}

// Sub tells a difference (P2).
func Sub(a, b uint64) uint64 {
	a, b = element(a), element(b)
	if a >= b {
		return a - b
	}
	return a + (prime - b)
}

// Mul tells a product (P2).
func Mul(a, b uint64) uint64 {
	high, low := bits.Mul64(element(a), element(b))
	return fold(high, low)
}

// fold makes an element of high times 2^64 plus low. No division is needed: less the prime,
// 2^64 is 2^32 - 1, and 2^96 is -1.
func fold(high, low uint64) uint64 {
	const mask = 1<<32 - 1
	return Add(Sub(low, high>>32), (high&mask)*mask)
}

// Pow tells a power (P2).
func Pow(a uint64, n uint64) uint64 {
	power := uint64(1)
	for square := a; n > 0; n >>= 1 {
		if n&1 == 1 {
			power = Mul(power, square)
		}
		square = Mul(square, square)
	}
	return power
}

// Inv tells what makes 1 of an element (P2).
func Inv(a uint64) uint64 {
	// Every element but 0, to the power prime - 1, is 1; of 0 this power is 0, as P2 asks.
	return Pow(a, prime-2)
}

// Root tells the root of a size (P2).
func Root(n int) uint64 {
	if n < 1 || n > maxRoot || n&(n-1) != 0 {
		return 0
	}
	return Pow(generator, (prime-1)/uint64(n))
}

// Embed makes an element of a number (P2).
func Embed(n int) uint64 {
	if n >= 0 {
		return uint64(n)
	}
	// The least int has no int without its sign, but its uint64 is right by wrap-round.
	return prime - uint64(-n)
}

// Lift makes a number of an element (P2).
func Lift(a uint64) int {
	a = element(a)
	if a <= (prime-1)/2 {
		return int(a)
	}
	return -int(prime - a)
}
