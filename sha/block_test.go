package sha

import (
	"math/big"
	"testing"
)

// primes returns the first n primes.
func primes(n int) []int64 {
	var l []int64
	for x := int64(2); len(l) < n; x++ {
		if big.NewInt(x).ProbablyPrime(0) {
			l = append(l, x)
		}
	}
	return l
}

// fraction returns the first 32 bits of the fractional part of the root of p with this degree: it looks for the greatest x with (x / 2^32)^degree <= p.
func fraction(p int64, degree int) uint32 {
	scaled := new(big.Int).Lsh(big.NewInt(p), uint(32*degree))
	x := new(big.Int)
	for bit := 40; bit >= 0; bit-- {
		y := new(big.Int).SetBit(x, bit, 1)
		if new(big.Int).Exp(y, big.NewInt(int64(degree)), nil).Cmp(scaled) <= 0 {
			x = y
		}
	}
	return uint32(x.Uint64())
}

// P1.1: the initial chaining value comes from the square roots of primes, and the constants from the cube roots.
func TestConstantsAreRootsOfPrimes(t *testing.T) {
	for i, p := range primes(len(initial)) {
		if initial[i] != fraction(p, 2) {
			t.Errorf("initial value %d is %08x, want %08x", i, initial[i], fraction(p, 2))
		}
	}
	l := primes(len(constants))
	if len(l) != 64 || l[63] != 311 {
		t.Fatalf("the primes are %v", l)
	}
	for i, p := range l {
		if constants[i] != fraction(p, 3) {
			t.Errorf("constant %d is %08x, want %08x", i, constants[i], fraction(p, 3))
		}
	}
}
