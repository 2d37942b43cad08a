package sha

import "math/bits"

const (
	blockSize = 64
	rounds    = 64
)

// initial is the first 32 bits of the fractional parts of the square roots of the first eight primes.
var initial = [8]uint32{
	0x6a09e667, 0xbb67ae85, 0x3c6ef372, 0xa54ff53a, 0x510e527f, 0x9b05688c, 0x1f83d9ab, 0x5be0cd19,
}

// constants is the first 32 bits of the fractional parts of the cube roots of the first 64 primes.
var constants = [rounds]uint32{
	0x428a2f98, 0x71374491, 0xb5c0fbcf, 0xe9b5dba5, 0x3956c25b, 0x59f111f1, 0x923f82a4, 0xab1c5ed5,
	0xd807aa98, 0x12835b01, 0x243185be, 0x550c7dc3, 0x72be5d74, 0x80deb1fe, 0x9bdc06a7, 0xc19bf174,
	0xe49b69c1, 0xefbe4786, 0x0fc19dc6, 0x240ca1cc, 0x2de92c6f, 0x4a7484aa, 0x5cb0a9dc, 0x76f988da,
	0x983e5152, 0xa831c66d, 0xb00327c8, 0xbf597fc7, 0xc6e00bf3, 0xd5a79147, 0x06ca6351, 0x14292967,
	0x27b70a85, 0x2e1b2138, 0x4d2c6dfc, 0x53380d13, 0x650a7354, 0x766a0abb, 0x81c2c92e, 0x92722c85,
	0xa2bfe8a1, 0xa81a664b, 0xc24b8b70, 0xc76c51a3, 0xd192e819, 0xd6990624, 0xf40e3585, 0x106aa070,
	0x19a4c116, 0x1e376c08, 0x2748774c, 0x34b0bcb5, 0x391c0cb3, 0x4ed8aa4a, 0x5b9cca4f, 0x682e6ff3,
	0x748f82ee, 0x78a5636f, 0x84c87814, 0x8cc70208, 0x90befffa, 0xa4506ceb, 0xbef9a3f7, 0xc67178f2,
}

// compress returns the chaining value after a block.
func compress(value [8]uint32, block [blockSize]byte) [8]uint32 {
	w := schedule(block)
	a, b, c, d := value[0], value[1], value[2], value[3]
	e, f, g, h := value[4], value[5], value[6], value[7]
	for t := range rounds {
		t1 := h + bigSigma1(e) + choose(e, f, g) + constants[t] + w[t]
		t2 := bigSigma0(a) + majority(a, b, c)
		h, g, f, e, d, c, b, a = g, f, e, d+t1, c, b, a, t1+t2
	}
	for i, x := range [8]uint32{a, b, c, d, e, f, g, h} {
		value[i] += x
	}
	return value
}

// schedule returns the numbers w of a block.
func schedule(block [blockSize]byte) [rounds]uint32 {
	var w [rounds]uint32
	for t := range 16 {
		w[t] = number([4]byte(block[4*t : 4*t+4]))
	}
	for t := 16; t < rounds; t++ {
		w[t] = smallSigma1(w[t-2]) + w[t-7] + smallSigma0(w[t-15]) + w[t-16]
	}
	return w
}

func number(b [4]byte) uint32 {
	return uint32(b[0])<<24 | uint32(b[1])<<16 | uint32(b[2])<<8 | uint32(b[3])
}

func rotate(x uint32, n int) uint32 { return bits.RotateLeft32(x, -n) }

func smallSigma0(x uint32) uint32 { return rotate(x, 7) ^ rotate(x, 18) ^ x>>3 }

func smallSigma1(x uint32) uint32 { return rotate(x, 17) ^ rotate(x, 19) ^ x>>10 }

func bigSigma0(x uint32) uint32 { return rotate(x, 2) ^ rotate(x, 13) ^ rotate(x, 22) }

func bigSigma1(x uint32) uint32 { return rotate(x, 6) ^ rotate(x, 11) ^ rotate(x, 25) }

func choose(x, y, z uint32) uint32 { return x&y ^ ^x&z }

func majority(x, y, z uint32) uint32 { return x&y ^ x&z ^ y&z }
