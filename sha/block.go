package sha

import "math/bits"

const (
	blockBytes = 64
	countBytes = 8 // that tell, at the end, how many bits there were
	wordBytes  = 4
	rounds     = 64
)

// start is the sum ahead of the first block: the first 32 bits behind the
// point of the square roots of the first eight primes.
var start = [8]uint32{
	0x6a09e667, 0xbb67ae85, 0x3c6ef372, 0xa54ff53a, 0x510e527f, 0x9b05688c, 0x1f83d9ab, 0x5be0cd19,
}

// roots are those of the cube roots of the first 64 primes.
var roots = [rounds]uint32{
	0x428a2f98, 0x71374491, 0xb5c0fbcf, 0xe9b5dba5, 0x3956c25b, 0x59f111f1, 0x923f82a4, 0xab1c5ed5,
	0xd807aa98, 0x12835b01, 0x243185be, 0x550c7dc3, 0x72be5d74, 0x80deb1fe, 0x9bdc06a7, 0xc19bf174,
	0xe49b69c1, 0xefbe4786, 0x0fc19dc6, 0x240ca1cc, 0x2de92c6f, 0x4a7484aa, 0x5cb0a9dc, 0x76f988da,
	0x983e5152, 0xa831c66d, 0xb00327c8, 0xbf597fc7, 0xc6e00bf3, 0xd5a79147, 0x06ca6351, 0x14292967,
	0x27b70a85, 0x2e1b2138, 0x4d2c6dfc, 0x53380d13, 0x650a7354, 0x766a0abb, 0x81c2c92e, 0x92722c85,
	0xa2bfe8a1, 0xa81a664b, 0xc24b8b70, 0xc76c51a3, 0xd192e819, 0xd6990624, 0xf40e3585, 0x106aa070,
	0x19a4c116, 0x1e376c08, 0x2748774c, 0x34b0bcb5, 0x391c0cb3, 0x4ed8aa4a, 0x5b9cca4f, 0x682e6ff3,
	0x748f82ee, 0x78a5636f, 0x84c87814, 0x8cc70208, 0x90befffa, 0xa4506ceb, 0xbef9a3f7, 0xc67178f2,
}

// mix tells the sum behind one block more.
func mix(sum [8]uint32, block [blockBytes]byte) [8]uint32 {
	words := spread(block)
	a, b, c, d, e, f, g, h := sum[0], sum[1], sum[2], sum[3], sum[4], sum[5], sum[6], sum[7]
	for t, w := range words {
		x := h + turns(e, 6, 11, 25) + ((e & f) ^ (^e & g)) + roots[t] + w
		y := turns(a, 2, 13, 22) + ((a & b) ^ (a & c) ^ (b & c))
		h, g, f, e, d, c, b, a = g, f, e, d+x, c, b, a, x+y
	}
	for i, v := range [8]uint32{a, b, c, d, e, f, g, h} {
		sum[i] += v
	}
	return sum
}

// spread tells the words of all rounds: the block's own sixteen, and those
// that come of them.
func spread(block [blockBytes]byte) [rounds]uint32 {
	var w [rounds]uint32
	for i, b := range block {
		w[i/wordBytes] = w[i/wordBytes]<<8 | uint32(b)
	}
	for t := blockBytes / wordBytes; t < rounds; t++ {
		p, q := w[t-2], w[t-15]
		a := turned(p, 17) ^ turned(p, 19) ^ p>>10
		b := turned(q, 7) ^ turned(q, 18) ^ q>>3
		w[t] = a + w[t-7] + b + w[t-16]
	}
	return w
}

// turned tells a word that is turned right by n bits.
func turned(w uint32, n int) uint32 { return bits.RotateLeft32(w, -n) }

// turns tells a word turned right three times, together.
func turns(w uint32, i, j, k int) uint32 { return turned(w, i) ^ turned(w, j) ^ turned(w, k) }

// putCount writes a number into b, the highest byte first.
func putCount(b []byte, n uint64) {
	for i := len(b) - 1; i >= 0; i-- {
		b[i] = byte(n)
		n >>= 8
	}
}

// sumBytes tells the bytes of a sum's words, the highest of each first.
func sumBytes(sum [8]uint32) [32]byte {
	var d [32]byte
	for i, w := range sum {
		d[wordBytes*i] = byte(w >> 24)
		d[wordBytes*i+1] = byte(w >> 16)
		d[wordBytes*i+2] = byte(w >> 8)
		d[wordBytes*i+3] = byte(w)
	}
	return d
}
