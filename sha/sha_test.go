package sha_test

import (
	"bytes"
	"crypto/hmac"
	"crypto/sha256"
	"encoding/hex"
	"strings"
	"testing"

	"warrant/sha"
)

// sample tells n bytes, in which no short piece comes again soon.
func sample(n int) []byte {
	b := make([]byte, n)
	state := uint32(n) + 1
	for i := range b {
		state = state*1664525 + 1013904223
		b[i] = byte(state >> 24)
	}
	return b
}

func isHex(t *testing.T, what string, d [32]byte, want string) {
	t.Helper()
	if got := hex.EncodeToString(d[:]); got != want {
		t.Errorf("%s: %s, not %s", what, got, want)
	}
}

// refMac tells a tag by the library's own means.
func refMac(key, b []byte) [32]byte {
	m := hmac.New(sha256.New, key)
	m.Write(b)
	return [32]byte(m.Sum(nil))
}

// The examples of FIPS 180-4.
func TestP1_1SumKnown(t *testing.T) {
	for _, c := range []struct{ text, want string }{
		{"", "e3b0c44298fc1c149afbf4c8996fb92427ae41e4649b934ca495991b7852b855"},
		{"abc", "ba7816bf8f01cfea414140de5dae2223b00361a396177a9cb410ff61f20015ad"},
		{"abcdbcdecdefdefgefghfghighijhijkijkljklmklmnlmnomnopnopq",
			"248d6a61d20638b8e5c026930c3e6039a33ce45964ff2167f6ecedd419db06c1"},
		{"abcdefghbcdefghicdefghijdefghijkefghijklfghijklmghijklmnhijklmnoijklmnopjklmnopqklmnopqrlmnopqrsmnopqrstnopqrstu",
			"cf5b16a778af8380036ce59e7b0492370b249b11e8f07a51afac45037afee9d1"},
		{strings.Repeat("a", 1000000), "cdc76e5c9914fb9281a1c7e284d73e67f1809a48a497200e046d39ccc7112cd0"},
	} {
		isHex(t, "Sum", sha.Sum([]byte(c.text)), c.want)
	}
	if sha.Sum(nil) != sha.Sum([]byte{}) {
		t.Error("Sum of nil isn't that of no bytes")
	}
}

// All lengths over a few blocks: those at which the count of bits finds no
// room in the last block (56 to 63, modulo 64) are among them.
func TestP1_1SumOfEachLength(t *testing.T) {
	for n := range 330 {
		if b := sample(n); sha.Sum(b) != sha256.Sum256(b) {
			t.Errorf("Sum of %d bytes", n)
		}
		for _, fill := range []byte{0, 128, 255} {
			if b := bytes.Repeat([]byte{fill}, n); sha.Sum(b) != sha256.Sum256(b) {
				t.Errorf("Sum of %d bytes %d", n, fill)
			}
		}
	}
	// The count of bits takes a third and a fourth byte.
	for _, n := range []int{8191, 8192, 1<<16 + 1, 1<<21 - 1, 1<<21 + 57} {
		if b := sample(n); sha.Sum(b) != sha256.Sum256(b) {
			t.Errorf("Sum of %d bytes", n)
		}
	}
}

// The count of bits takes a fifth byte: behind 2^29 bytes.
func TestP1_1SumBeyond32BitsOfCount(t *testing.T) {
	var h sha.Hash
	ref := sha256.New()
	part := sample(1 << 20)
	for range 512 {
		h.Write(part)
		ref.Write(part)
	}
	h.Write([]byte("abc"))
	ref.Write([]byte("abc"))
	if h.Sum() != [32]byte(ref.Sum(nil)) {
		t.Error("Sum of 2^29 + 3 bytes")
	}
}

func TestP1_1Join(t *testing.T) {
	none := sha256.Sum256(nil)
	if sha.Join() != none || sha.Join(nil) != none || sha.Join(nil, []byte{}, nil) != none {
		t.Error("Join of nothing")
	}
	b := sample(200)
	want := sha256.Sum256(b)
	for _, parts := range [][][]byte{
		{b},
		{b[:64], b[64:128], b[128:]},
		{b[:63], b[63:65], b[65:]},
		{nil, b[:1], nil, b[1:199], {}, b[199:], nil},
		{b[:56], b[56:120], b[120:184], b[184:]},
	} {
		if sha.Join(parts...) != want {
			t.Errorf("Join of %d parts", len(parts))
		}
	}
	if sha.Join(b[100:], b[:100]) == want {
		t.Error("Join: the order of parts counts for nothing")
	}
}

// The examples of RFC 4231, but the fifth, which is cut.
func TestP1_1MacKnown(t *testing.T) {
	twenty := func(c byte) []byte { return bytes.Repeat([]byte{c}, 20) }
	rising := make([]byte, 25)
	for i := range rising {
		rising[i] = byte(i + 1)
	}
	long := bytes.Repeat([]byte{0xaa}, 131)
	for _, c := range []struct {
		key, data []byte
		want      string
	}{
		{twenty(0x0b), []byte("Hi There"),
			"b0344c61d8db38535ca8afceaf0bf12b881dc200c9833da726e9376c2e32cff7"},
		{[]byte("Jefe"), []byte("what do ya want for nothing?"),
			"5bdcc146bf60754e6a042426089575c75a003f089d2739839dec58b964ec3843"},
		{twenty(0xaa), bytes.Repeat([]byte{0xdd}, 50),
			"773ea91e36800e46854db8ebd09181a72959098b3ef8c122d9635514ced565fe"},
		{rising, bytes.Repeat([]byte{0xcd}, 50),
			"82558a389a443c0ea4cc819899f2083a85f0faa3e578f8077a2e3ff46729665b"},
		{long, []byte("Test Using Larger Than Block-Size Key - Hash Key First"),
			"60e431591ee0b67f0d8a26aacbf5b77f8e0bc6213728c5140546040f0ee37f54"},
		{long, []byte("This is a test using a larger than block-size key and a larger than block-size data. " +
			"The key needs to be hashed before being used by the HMAC algorithm."),
			"9b09ffa71b942fcb27635fbcd5b0e944bfdc63644f0713938a7f51535c3a35e2"},
	} {
		isHex(t, "Mac", sha.Mac(c.key, c.data), c.want)
	}
}

// Keys of all lengths about a block's: one of 64 bytes stands for itself, one
// of 65 is digested.
func TestP1_1MacOfEachLength(t *testing.T) {
	for n := range 140 {
		key := sample(n)
		for _, m := range []int{0, 1, 55, 56, 64, 130} {
			data := sample(m)
			if sha.Mac(key, data) != refMac(key, data) {
				t.Errorf("Mac of %d bytes by a key of %d", m, n)
			}
		}
	}
	if sha.Mac(nil, nil) != refMac(nil, nil) {
		t.Error("Mac of nothing by nothing")
	}
}

// A key is filled up with 0, and a longer one stands for its digest: by the
// words of the tag such keys are one.
func TestP1_1MacKeyFilled(t *testing.T) {
	data := []byte("data")
	if sha.Mac([]byte("k"), data) != sha.Mac([]byte("k\x00\x00"), data) {
		t.Error("a key isn't filled up with 0")
	}
	long := sample(65)
	d := sha.Sum(long)
	if sha.Mac(long, data) != sha.Mac(d[:], data) {
		t.Error("a key of 65 bytes isn't digested")
	}
}

func TestP1_1ArgumentsStay(t *testing.T) {
	key, long, data := sample(64), sample(100), sample(150)
	parts := [][]byte{data[:70], data[70:]}
	sha.Sum(data)
	sha.Join(parts...)
	sha.Mac(key, data)
	sha.Mac(long, data)
	sha.Same(data, data[:149])
	var h sha.Hash
	h.Write(data)
	h.Sum()
	if !bytes.Equal(key, sample(64)) || !bytes.Equal(long, sample(100)) || !bytes.Equal(data, sample(150)) ||
		len(parts[0]) != 70 || len(parts[1]) != 80 {
		t.Error("an argument was changed")
	}
}

func TestP1_2Hash(t *testing.T) {
	var h sha.Hash
	if h.Sum() != sha256.Sum256(nil) {
		t.Error("Sum of a zero value")
	}
	h.Write(nil)
	h.Write([]byte{})
	if h.Sum() != sha256.Sum256(nil) {
		t.Error("Sum behind nothing written")
	}
	b := sample(300)
	for i := range b {
		h.Write(b[i : i+1])
		want := sha256.Sum256(b[:i+1])
		if h.Sum() != want || h.Sum() != want {
			t.Errorf("Sum of the first %d bytes, told twice", i+1)
		}
	}
}

// Sum changes nothing: whether it was asked between makes no difference.
func TestP1_2SumChangesNothing(t *testing.T) {
	for n := range 130 {
		var asked, not sha.Hash
		head, rest := sample(n), sample(77)
		asked.Write(head)
		not.Write(head)
		asked.Sum()
		asked.Sum()
		if asked != not {
			t.Errorf("Sum changed a Hash of %d bytes", n)
		}
		asked.Write(rest)
		not.Write(rest)
		if want := sha256.Sum256(append(head, rest...)); asked.Sum() != want || not.Sum() != want {
			t.Errorf("Sum of %d and 77 bytes", n)
		}
	}
}

// What was written is not kept: it may be used again.
func TestP1_2WriteKeepsNoBytes(t *testing.T) {
	var h sha.Hash
	buf := make([]byte, 50)
	for i := range 5 {
		copy(buf, sample(250)[50*i:])
		h.Write(buf)
	}
	for i := range buf {
		buf[i] = 0
	}
	if h.Sum() != sha256.Sum256(sample(250)) {
		t.Error("Sum of bytes whose memory was used again")
	}
}

func TestP1_2HashesApart(t *testing.T) {
	var a, b sha.Hash
	a.Write([]byte("ab"))
	b.Write([]byte("xy"))
	c := a
	a.Write([]byte("c"))
	c.Write([]byte("z"))
	for _, x := range []struct {
		h    *sha.Hash
		text string
	}{{&a, "abc"}, {&b, "xy"}, {&c, "abz"}} {
		if x.h.Sum() != sha256.Sum256([]byte(x.text)) {
			t.Errorf("Sum of %s", x.text)
		}
	}
}

func TestP1_2Nil(t *testing.T) {
	var h *sha.Hash
	h.Write(nil)
	h.Write([]byte("abc"))
	if h.Sum() != sha256.Sum256(nil) {
		t.Error("Sum of a nil Hash")
	}
}

func TestP1_3Same(t *testing.T) {
	for _, c := range []struct {
		a, b []byte
		want bool
	}{
		{nil, nil, true},
		{nil, []byte{}, true},
		{[]byte{0}, []byte{0}, true},
		{[]byte("ab"), []byte("ab"), true},
		{nil, []byte{0}, false},
		{[]byte{0}, nil, false},
		{[]byte("ab"), []byte("abc"), false},
		{[]byte("abc"), []byte("ab"), false},
		{[]byte("ab"), []byte("ab\x00"), false},
		{[]byte("ab"), []byte("ba"), false},
		{[]byte{1, 1}, []byte{0, 0}, false}, // differences that undo one another
		{[]byte{128, 128}, []byte{0, 0}, false},
	} {
		if sha.Same(c.a, c.b) != c.want {
			t.Errorf("Same(%v, %v): %v", c.a, c.b, !c.want)
		}
	}
}

// One bit is enough, at whatever place.
func TestP1_3SameOneBit(t *testing.T) {
	a := sample(40)
	if b := bytes.Clone(a); !sha.Same(a, b) {
		t.Error("the same bytes, elsewhere, are told apart")
	}
	for i := range a {
		for bit := range 8 {
			b := bytes.Clone(a)
			b[i] ^= 1 << bit
			if sha.Same(a, b) || sha.Same(b, a) {
				t.Errorf("bit %d of byte %d counts for nothing", bit, i)
			}
		}
	}
}

// However bytes are cut, into two, into three, or into pieces of one length.
func TestP1_4Cuts(t *testing.T) {
	b := sample(150)
	want := sha.Sum(b)
	for i := range len(b) + 1 {
		for j := i; j <= len(b); j++ {
			var h sha.Hash
			h.Write(b[:i])
			h.Write(b[i:j])
			h.Write(b[j:])
			if h.Sum() != want || sha.Join(b[:i], b[i:j], b[j:]) != want {
				t.Fatalf("cut at %d and %d", i, j)
			}
		}
	}
	for size := 1; size <= len(b); size++ {
		var h sha.Hash
		var parts [][]byte
		for i := 0; i < len(b); i += size {
			part := b[i:min(i+size, len(b))]
			h.Write(part)
			parts = append(parts, part)
		}
		if h.Sum() != want || sha.Join(parts...) != want {
			t.Errorf("cut into pieces of %d", size)
		}
	}
}

func TestP1_4TagsApart(t *testing.T) {
	key, data := sample(70), sample(90)
	tag := sha.Mac(key, data)
	if again := sha.Mac(key, data); !sha.Same(tag[:], again[:]) {
		t.Error("the same tag is told apart from itself")
	}
	apart := func(what string, i int, other [32]byte) {
		if sha.Same(tag[:], other[:]) {
			t.Errorf("%s %d counts for nothing", what, i)
		}
	}
	for i := range data {
		other := bytes.Clone(data)
		other[i] ^= 1
		apart("data: byte", i, sha.Mac(key, other))
		apart("data: length", i, sha.Mac(key, data[:i]))
	}
	for i := range key {
		other := bytes.Clone(key)
		other[i] ^= 1
		apart("key: byte", i, sha.Mac(other, data))
		apart("key: length", i, sha.Mac(key[:i], data))
	}
	apart("key and data, in turn", 0, sha.Mac(data, key))
	apart("the cut between key and data", 0, sha.Mac(key[:60], append(bytes.Clone(key[60:]), data...)))
}
