package pkce_test

import (
	"math/rand/v2"
	"testing"

	"warrant/pkce"
)

// follows tells a test that a verifier's challenge must be one that may be, and
// that is checked by it.
func follows(t *testing.T, plain bool, verifier string) string {
	t.Helper()
	challenge, err := pkce.Challenge(plain, verifier)
	if err != nil {
		t.Fatalf("Challenge(%v, %q): %v", plain, verifier, err)
	}
	isRight(t, plain, challenge, true)
	isChecked(t, plain, challenge, verifier)
	return challenge
}

func TestP10_3Known(t *testing.T) {
	for _, s := range verifiers() {
		for _, plain := range bothWays {
			follows(t, plain, s)
		}
		// A plain challenge is a verifier, and so is one that is a digest's.
		for _, plain := range bothWays {
			follows(t, !plain, follows(t, plain, s))
		}
	}
}

func TestP10_3Any(t *testing.T) {
	chance := rand.New(rand.NewPCG(10, 3))
	for range 10000 {
		one, other := anyVerifier(chance), anyVerifier(chance)
		for _, plain := range bothWays {
			challenge := follows(t, plain, one)
			isUnchecked(t, plain, challenge, other)
			isUnchecked(t, !plain, challenge, one)
		}
	}
}

// A text of any bytes: either it is a verifier, with challenges that are
// checked by it, or it has none.
func TestP10_3Spoiled(t *testing.T) {
	chance := rand.New(rand.NewPCG(10, 33))
	right := 0
	for range 20000 {
		s := spoiled(chance, anyVerifier(chance))
		if !verifierPattern.MatchString(s) {
			isNoVerifier(t, s)
			continue
		}
		right++
		isVerifier(t, s)
		for _, plain := range bothWays {
			follows(t, plain, s)
		}
	}
	if right < 5000 || right > 15000 {
		t.Errorf("%d were right", right)
	}
}
