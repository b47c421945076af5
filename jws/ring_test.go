package jws_test

import (
	"fmt"
	"math/rand/v2"
	"slices"
	"strings"
	"testing"
	"unsafe"

	"warrant/api"
	"warrant/jws"
)

func TestP8_1CheckRight(t *testing.T) {
	for n := 1; n <= 4; n++ {
		isRing(t, fmt.Sprint(n, " keys"), keys(n))
	}
	for _, kid := range names {
		isRing(t, "a Kid "+kid, []api.Key{key(kid, "s")})
	}
	for n := 1; n <= 32; n++ {
		isRing(t, fmt.Sprint("a Kid of ", n), []api.Key{key(strings.Repeat("k", n), "s")})
	}
	for n := 1; n <= 128; n++ {
		isRing(t, fmt.Sprint("a secret of ", n), []api.Key{key("k", strings.Repeat("s", n))})
	}
	for c := range 256 {
		s := string([]byte{byte(c)})
		isRing(t, fmt.Sprintf("a secret %q", s), []api.Key{key("k", s), key("l", s+s), key("m", strings.Repeat(s, 128))})
	}
	isRing(t, "one secret under four Kids", []api.Key{key("a", "s"), key("b", "s"), key("c", "s"), key("d", "s")})
	isRing(t, "Kids that begin others", []api.Key{key("k", "s"), key("kk", "s"), key("kkk", "s"), key("k-", "s")})
	isRing(t, "Kids in falling order", []api.Key{key("d", "s"), key("c", "s"), key("b", "s"), key("a", "s")})
	isRing(t, "a Kid that is the secret", []api.Key{key("a", "b"), key("b", "a"), key("c", "c")})
}

func TestP8_1CheckSize(t *testing.T) {
	isNoRing(t, "nil", nil)
	isNoRing(t, "no key", []api.Key{})
	for _, n := range []int{5, 6, 8, 16, 255, 256, 257, 260, 65537} {
		isNoRing(t, fmt.Sprint(n, " keys"), keys(n))
	}
}

// wrongKeys are keys that may stand in no ring, by what is wrong with them.
func wrongKeys() map[string]api.Key {
	wrong := map[string]api.Key{
		"a zero key":         {},
		"an empty secret":    key("x", ""),
		"a secret of 129":    key("x", strings.Repeat("s", 129)),
		"a secret of 256":    key("x", strings.Repeat("s", 256)),
		"a secret of 257":    key("x", strings.Repeat("s", 257)),
		"a secret of 64 KiB": key("x", strings.Repeat("s", 1<<16+1)),
		"a secret of 1 MiB":  key("x", strings.Repeat("\x00", 1<<20)),
		"nothing right":      key("X", ""),
	}
	for _, kid := range noNames {
		wrong[fmt.Sprintf("a Kid %.50q of %d", kid, len(kid))] = key(kid, "s")
	}
	return wrong
}

// A wrong key at each place of rings of each size.
func TestP8_1CheckKeys(t *testing.T) {
	for what, k := range wrongKeys() {
		for n := 1; n <= 4; n++ {
			for i := range n {
				ring := keys(n)
				ring[i] = k
				isNoRing(t, fmt.Sprintf("%s, %d of %d", what, i, n), ring)
			}
		}
	}
}

// Each byte in a Kid.
func TestP8_1CheckEachByte(t *testing.T) {
	right := 0
	for c := range 256 {
		s := string([]byte{byte(c)})
		for _, kid := range []string{s, "k" + s, s + "k", "k" + s + "k", s + strings.Repeat("k", 31), strings.Repeat("k", 31) + s} {
			ring := []api.Key{key("a1", "s"), key(kid, "s")}
			if namePattern.MatchString(s) {
				isRing(t, fmt.Sprintf("a Kid %q", kid), ring)
				right++
			} else {
				isNoRing(t, fmt.Sprintf("a Kid %q", kid), ring)
			}
		}
	}
	if right != 6*40 {
		t.Errorf("%d Kids are right", right)
	}
}

// One Kid at each two places.
func TestP8_1CheckTwice(t *testing.T) {
	for n := 2; n <= 4; n++ {
		for i := range n {
			for j := range i {
				ring := keys(n)
				ring[i].Kid = ring[j].Kid
				isNoRing(t, fmt.Sprintf("%d and %d of %d", j, i, n), ring)
				ring[i].Secret = ring[j].Secret
				isNoRing(t, fmt.Sprintf("%d and %d of %d, the same", j, i, n), ring)
			}
		}
	}
}

func TestP8_1Rotate(t *testing.T) {
	one := key("new", "a new secret")
	for n := 1; n <= 3; n++ {
		isRotated(t, fmt.Sprint(n, " keys"), keys(n), one, append(keys(n), one))
	}
	isRotated(t, "4 keys", keys(4), one, append(keys(4)[1:], one))
	for _, kid := range names {
		k := key(kid, "s")
		isRotated(t, "a Kid "+kid, []api.Key{key("old", "s")}, k, []api.Key{key("old", "s"), k})
	}
	for _, size := range []int{1, 2, 64, 127, 128} {
		k := key("new", strings.Repeat("\xff", size))
		isRotated(t, fmt.Sprint("a secret of ", size), keys(4), k, append(keys(4)[1:], k))
		isRotated(t, fmt.Sprint("a secret of ", size), keys(2), k, append(keys(2), k))
	}
	// Only the Kid counts, not the secret.
	isRotated(t, "a secret that is there", keys(2), key("new", "secret 1"), append(keys(2), key("new", "secret 1")))
}

// A Kid that is there already; that of the first one of four goes with it.
func TestP8_1RotateTwice(t *testing.T) {
	for n := 1; n <= 4; n++ {
		for i := range n {
			k := key(keys(n)[i].Kid, "a new secret")
			if of := fmt.Sprintf("the Kid of %d of %d", i, n); n == 4 && i == 0 {
				isRotated(t, of, keys(n), k, append(keys(n)[1:], k))
			} else {
				isNotRotated(t, of, keys(n), k)
			}
			isNotRotated(t, "a second key of it", append(keys(min(n, 3)), k), k)
		}
	}
}

func TestP8_1RotateWrong(t *testing.T) {
	one := key("new", "a new secret")
	for n := range 8 {
		for what, k := range wrongKeys() {
			isNotRotated(t, fmt.Sprintf("%s behind %d", what, n), keys(n), k)
		}
	}
	isNotRotated(t, "behind nil", nil, one)
	isNotRotated(t, "behind no key", []api.Key{}, one)
	for _, n := range []int{5, 6, 7, 256, 260} {
		isNotRotated(t, fmt.Sprint("behind ", n), keys(n), one)
	}
	// The ring must be one even in what would go.
	for what, k := range wrongKeys() {
		for i := range 4 {
			ring := keys(4)
			ring[i] = k
			isNotRotated(t, fmt.Sprintf("behind %s, %d", what, i), ring, one)
		}
	}
	for i := 1; i < 4; i++ {
		ring := keys(4)
		ring[0].Kid = ring[i].Kid
		isNotRotated(t, fmt.Sprint("behind one Kid at 0 and ", i), ring, one)
	}
}

// Behind many turns the last four keys are there.
func TestP8_1RotateOn(t *testing.T) {
	all := keys(12)
	ring := all[:1]
	for i := 1; i < len(all); i++ {
		next, err := jws.Rotate(ring, all[i])
		if err != nil || !slices.Equal(next, all[max(0, i-3):i+1]) {
			t.Fatalf("%q and %q: %q, %v", ring, all[i], next, err)
		}
		ring = next
	}
	// A Kid that went may come again.
	isRotated(t, "k1 again", ring, all[0], append(slices.Clone(all[9:]), all[0]))
}

func TestP8_1AsReference(t *testing.T) {
	chance := rand.New(rand.NewPCG(8, 1))
	kids := append(slices.Clone(names), "", "A", strings.Repeat("k", 33))
	lengths := []int{0, 1, 1, 1, 64, 128, 129}
	rings := 0
	for range 20000 {
		var ring []api.Key
		for range chance.IntN(6) {
			secret := strings.Repeat("s", lengths[chance.IntN(len(lengths))])
			ring = append(ring, key(kids[chance.IntN(len(kids))], secret))
		}
		if refRing(ring) {
			isRing(t, fmt.Sprintf("%q", ring), ring)
			rings++
		} else {
			isNoRing(t, fmt.Sprintf("%q", ring), ring)
		}
		if len(ring) < 2 {
			continue
		}
		front, k := ring[:len(ring)-1], ring[len(ring)-1]
		turned := slices.Clone(ring[max(0, len(ring)-4):])
		if len(front) > 4 {
			turned = nil
		}
		if refRing(front) && refRing(turned) {
			isRotated(t, fmt.Sprintf("%q", ring), front, k, turned)
		} else {
			isNotRotated(t, fmt.Sprintf("%q", ring), front, k)
		}
	}
	if rings < 1000 {
		t.Errorf("only %d rings", rings)
	}
}

// What is told may be changed, and added to; what was handed in stays.
func TestP8_1NothingShared(t *testing.T) {
	for n := 1; n <= 4; n++ {
		room := make([]api.Key, n, 9)
		copy(room, keys(n))
		for range 3 {
			got, err := jws.Rotate(room, key("new", "s"))
			if err != nil || len(got) != min(n+1, 4) || got[len(got)-1] != key("new", "s") {
				t.Fatalf("Rotate: %q, %v", got, err)
			}
			got = append(got, key("x", "x"))
			for i := range got {
				got[i] = key("y", "y")
			}
		}
		if whole := append(keys(n), make([]api.Key, 9-n)...); !slices.Equal(room[:9], whole) {
			t.Errorf("the ring's memory: %q", room[:9])
		}
	}
}

// Nor do the bytes of texts lie in what was handed in.
func TestP8_1NoBytesShared(t *testing.T) {
	memory := "one two three four five six"
	ring := []api.Key{key(memory[:3], memory[4:7]), key(memory[8:13], memory[14:18])}
	got, err := jws.Rotate(ring, key(memory[19:23], memory[24:]))
	if err != nil || len(got) != 3 {
		t.Fatalf("Rotate: %q, %v", got, err)
	}
	for _, k := range got {
		isOutside(t, k.Kid, memory)
		isOutside(t, k.Secret, memory)
	}
}

// isOutside tells a test that the bytes of s must not lie in memory.
func isOutside(t *testing.T, s, memory string) {
	t.Helper()
	begin := uintptr(unsafe.Pointer(unsafe.StringData(memory)))
	place := uintptr(unsafe.Pointer(unsafe.StringData(s)))
	if begin <= place && place < begin+uintptr(len(memory)) {
		t.Errorf("%q lies within what was handed in", s)
	}
}
