// Package sha is layer 1: digests (SHA-256), tags (HMAC-SHA-256), and tags
// held against one another. See shared/doc/01-sha.md.
package sha

// Hash is a digest on its way. Its zero value is ready.
type Hash struct {
	sum   [8]uint32        // the sum so far, of the blocks that were full
	block [blockBytes]byte // its first size%blockBytes bytes wait for more
	size  uint64           // how many bytes there were
}

// Sum tells the digest of b.
func Sum(b []byte) [32]byte { return Join(b) }

// Join tells the digest of all parts, one behind the other.
func Join(parts ...[]byte) [32]byte {
	var h Hash
	for _, p := range parts {
		h.Write(p)
	}
	return h.Sum()
}

// Mac tells the tag of b by a key.
func Mac(key, b []byte) [32]byte {
	inner := fillKey(key)
	outer := inner
	for i := range inner {
		inner[i] ^= 54
		outer[i] ^= 92
	}
	d := Join(inner[:], b)
	return Join(outer[:], d[:])
}

// fillKey tells a key's bytes, or its digest's if it has more than a block,
// with 0 behind them.
func fillKey(key []byte) [blockBytes]byte {
	var k [blockBytes]byte
	if len(key) > blockBytes {
		d := Sum(key)
		copy(k[:], d[:])
		return k
	}
	copy(k[:], key)
	return k
}

// Same tells whether a and b are as long, and the same. It doesn't stop at the
// first byte that differs: how long it takes must not tell where that is.
func Same(a, b []byte) bool {
	if len(a) != len(b) {
		return false
	}
	var differ byte
	for i := range a {
		differ |= a[i] ^ b[i]
	}
	return differ == 0
}

// Write puts bytes behind those ahead.
func (h *Hash) Write(b []byte) {
	if h == nil {
		return
	}
	for len(b) > 0 {
		n := copy(h.block[h.waiting():], b)
		if h.waiting()+n == blockBytes {
			h.sum = mix(h.soFar(), h.block)
		}
		h.size += uint64(n)
		b = b[n:]
	}
}

// Sum tells the digest of all so far, and changes nothing.
func (h *Hash) Sum() [32]byte {
	if h == nil {
		h = new(Hash)
	}
	var last [blockBytes]byte
	n := copy(last[:], h.block[:h.waiting()])
	last[n] = 128
	sum := h.soFar()
	switch missing := blockBytes - n - 1; {
	case missing < countBytes:
		sum = mix(sum, last)
		last = [blockBytes]byte{}
		fallthrough
	default:
		putCount(last[blockBytes-countBytes:], h.size*8)
		sum = mix(sum, last)
	}
	return sumBytes(sum)
}

// waiting tells how many bytes of the block wait for more.
func (h *Hash) waiting() int { return int(h.size % blockBytes) }

// soFar tells the sum of the blocks that were full. Ahead of the first one it
// is the start, which the zero value of a Hash can't hold itself.
func (h *Hash) soFar() [8]uint32 {
	if h.size < blockBytes {
		return start
	}
	return h.sum
}
