package pkce_test

import (
	"strings"
	"testing"

	"warrant/pkce"
)

func TestP10_1Known(t *testing.T) {
	for verifier, challenge := range map[string]string{
		exampleVerifier:          exampleChallenge,
		strings.Repeat("a", 43):  "ZtNPunH49FD35FWYhT5Tv8I7vRKQJ8uxMaL0_9eHjNA",
		strings.Repeat("a", 128): "aDbPE7rEAOkQUHHNavRwhN-srU5eMCyUv-0k4BOvtz4",
	} {
		if got, err := pkce.Challenge(false, verifier); err != nil || got != challenge {
			t.Errorf("Challenge(false, %q): %q, %v, not %q", verifier, got, err, challenge)
		}
		if got, err := pkce.Challenge(true, verifier); err != nil || got != verifier {
			t.Errorf("Challenge(true, %q): %q, %v", verifier, got, err)
		}
	}
	for _, s := range verifiers() {
		isVerifier(t, s)
	}
	for _, s := range noVerifiers() {
		isNoVerifier(t, s)
	}
}

// Each byte at each place of a verifier, put in place of another and between
// two.
func TestP10_1EachByte(t *testing.T) {
	right := 0
	for c := range 256 {
		s := string([]byte{byte(c)})
		isIn := strings.Contains(ofVerifiers, s)
		if isIn {
			right++
		}
		of := isNoVerifier
		if isIn {
			of = isVerifier
		}
		for i := range len(exampleVerifier) {
			of(t, exampleVerifier[:i]+s+exampleVerifier[i+1:])
			of(t, exampleVerifier[:i]+s+exampleVerifier[i:])
		}
		of(t, exampleVerifier+s)
		of(t, strings.Repeat(s, 43))
		of(t, strings.Repeat("a", 127)+s)
		of(t, s+strings.Repeat("~", 127))
		of(t, strings.Repeat(".", 64)+s+strings.Repeat("_", 63))
		isNoVerifier(t, s)
		isNoVerifier(t, strings.Repeat(s, 42))
		isNoVerifier(t, strings.Repeat(s, 129))
	}
	if right != 66 {
		t.Errorf("%d bytes are of verifiers", right)
	}
}

func TestP10_1EachLength(t *testing.T) {
	for n := range 300 {
		for _, c := range "aZ0-~._" {
			s := strings.Repeat(string(c), n)
			if 43 <= n && n <= 128 {
				isVerifier(t, s)
			} else {
				isNoVerifier(t, s)
			}
		}
	}
	for _, n := range []int{1<<8 + 43, 1<<8 + 128, 1<<16 - 1, 1 << 16, 1<<16 + 1, 1<<16 + 43, 1 << 20} {
		isNoVerifier(t, strings.Repeat("a", n))
	}
}

// Bytes are counted, not letters.
func TestP10_1Letters(t *testing.T) {
	for n := range 130 {
		isNoVerifier(t, strings.Repeat("\u00e9", n))
		isNoVerifier(t, strings.Repeat("a", n)+"\u20ac")
		isNoVerifier(t, "\U0001f600"+strings.Repeat("a", n))
	}
}

func TestP10_1NoMemoryShared(t *testing.T) {
	for _, s := range verifiers() {
		for _, plain := range bothWays {
			got, err := pkce.Challenge(plain, s)
			if err != nil {
				t.Errorf("Challenge(%v, %q): %v", plain, s, err)
			}
			isOutside(t, got, s)
		}
	}
}
