package pkce_test

import (
	"crypto/sha256"
	"encoding/base64"
	"math/rand/v2"
	"strings"
	"testing"

	"warrant/pkce"
)

// What may be a challenge that is plain are just the verifiers.
func TestP10_2RightPlain(t *testing.T) {
	for _, s := range verifiers() {
		isRight(t, true, s, true)
	}
	for _, s := range noVerifiers() {
		isRight(t, true, s, false)
	}
	for n := range 300 {
		isRight(t, true, strings.Repeat("A", n), 43 <= n && n <= 128)
		isRight(t, true, strings.Repeat("~", n), 43 <= n && n <= 128)
	}
}

func TestP10_2RightDigest(t *testing.T) {
	for _, s := range []string{exampleChallenge, strings.Repeat("A", 43), strings.Repeat("-", 42) + "8", strings.Repeat("_", 42) + "8", strings.Repeat("z", 42) + "0"} {
		isRight(t, false, s, true)
	}
	for _, s := range noVerifiers() {
		isRight(t, false, s, false)
	}
	digest := sha256.Sum256([]byte("abc"))
	for _, s := range []string{
		base64.URLEncoding.EncodeToString(digest[:]), base64.StdEncoding.EncodeToString(digest[:]), base64.RawStdEncoding.EncodeToString(digest[:]),
		strings.Repeat("B", 43), strings.Repeat("~", 43), strings.Repeat(".", 43), strings.Repeat("_", 43), exampleVerifier + "A",
		"ba7816bf8f01cfea414140de5dae2223b00361a396177a9cb410ff61f20015ad",
	} {
		isRight(t, false, s, false)
	}
	isRight(t, false, base64.RawURLEncoding.EncodeToString(digest[:]), true)
	for n := range 200 {
		b := make([]byte, n)
		isRight(t, false, base64.RawURLEncoding.EncodeToString(b), n == 32)
		isRight(t, false, strings.Repeat("A", n), n == 43)
	}
	for _, n := range []int{1<<8 + 32, 49152, 49153, 1 << 16, 1<<16 + 32, 1 << 20} {
		isRight(t, false, base64.RawURLEncoding.EncodeToString(make([]byte, n)), false)
		isRight(t, false, strings.Repeat("A", n), false)
	}
}

// Each byte at each place of a challenge, put in place of another and between
// two. Of a digest's last sign the bits behind the last byte are 0.
func TestP10_2RightEachByte(t *testing.T) {
	ends := 0
	for c := range 256 {
		s := string([]byte{byte(c)})
		for i := range len(exampleChallenge) {
			for _, plain := range bothWays {
				turned := exampleChallenge[:i] + s + exampleChallenge[i+1:]
				isRight(t, plain, turned, refRight(plain, turned))
				longer := exampleChallenge[:i] + s + exampleChallenge[i:]
				isRight(t, plain, longer, plain && refRight(true, longer))
			}
		}
		isRight(t, true, exampleChallenge+s, strings.Contains(ofVerifiers, s))
		isRight(t, false, exampleChallenge+s, false)
		worth := strings.IndexByte(ofDigests, byte(c))
		isEnd := worth >= 0 && worth%4 == 0
		if isEnd {
			ends++
		}
		isRight(t, false, exampleChallenge[:42]+s, isEnd)
	}
	if ends != 16 {
		t.Errorf("%d bytes may be at the end", ends)
	}
}

func TestP10_2RightAsReference(t *testing.T) {
	chance := rand.New(rand.NewPCG(10, 2))
	right := map[bool]int{}
	for range 30000 {
		s := refChallenge(chance.IntN(2) == 0, anyVerifier(chance))
		if chance.IntN(4) > 0 {
			s = spoiled(chance, s)
		}
		for _, plain := range bothWays {
			isRight(t, plain, s, refRight(plain, s))
			if refRight(plain, s) {
				right[plain]++
			}
		}
	}
	if right[true] < 1000 || right[false] < 1000 {
		t.Errorf("too few were right: %v", right)
	}
}

func TestP10_2CheckKnown(t *testing.T) {
	isChecked(t, false, exampleChallenge, exampleVerifier)
	isChecked(t, true, exampleVerifier, exampleVerifier)
	isChecked(t, true, exampleChallenge, exampleChallenge)
	isUnchecked(t, true, exampleChallenge, exampleVerifier)
	isUnchecked(t, true, exampleVerifier, exampleChallenge)
	isUnchecked(t, false, exampleVerifier, exampleVerifier)
	isUnchecked(t, false, exampleVerifier, exampleChallenge)
	isUnchecked(t, false, exampleChallenge, exampleChallenge)
	for _, s := range verifiers() {
		for _, plain := range bothWays {
			own := refChallenge(plain, s)
			isChecked(t, plain, own, s)
			isUnchecked(t, !plain, own, s)
			for _, other := range []string{
				"", own[1:], own[:len(own)-1], own[:len(own)/2], own + "A", "A" + own, own + "=", own + "\x00", own + "\n", own + own, " " + own, own + strings.Repeat("A", 1<<16),
				strings.Repeat("A", 43), strings.Repeat("\x00", len(own)), strings.Repeat("\xff", 43),
			} {
				if other != own {
					isUnchecked(t, plain, other, s)
				}
			}
		}
	}
}

// Who is no verifier has no challenge, though it be its digest or itself.
func TestP10_2CheckNoVerifier(t *testing.T) {
	for _, s := range noVerifiers() {
		for _, plain := range bothWays {
			isUnchecked(t, plain, s, s)
			isUnchecked(t, plain, refChallenge(plain, s), s)
			isUnchecked(t, plain, refChallenge(!plain, s), s)
			isUnchecked(t, plain, "", s)
			isUnchecked(t, plain, s, exampleVerifier)
		}
	}
	for n := range 43 {
		s := strings.Repeat("a", n)
		isUnchecked(t, true, s, s)
		isUnchecked(t, false, refChallenge(false, s), s)
	}
}

// Each byte of a challenge and of a verifier turned to each other one: all are
// looked at.
func TestP10_2CheckEachByte(t *testing.T) {
	for _, verifier := range []string{exampleVerifier, strings.Repeat("a", 128), strings.Repeat("._~-", 20)} {
		for _, plain := range bothWays {
			own := refChallenge(plain, verifier)
			for c := range 256 {
				s := string([]byte{byte(c)})
				for i := range len(own) {
					if own[i] != byte(c) {
						isUnchecked(t, plain, own[:i]+s+own[i+1:], verifier)
					}
				}
				for i := range len(verifier) {
					if verifier[i] != byte(c) {
						isUnchecked(t, plain, own, verifier[:i]+s+verifier[i+1:])
					}
				}
			}
		}
	}
}

// Several bytes turned, whatever their bits come to together.
func TestP10_2CheckSeveral(t *testing.T) {
	for _, plain := range bothWays {
		own := refChallenge(plain, exampleVerifier)
		for i := range len(own) {
			for j := range i {
				b := []byte(own)
				b[i], b[j] = b[i]^1, b[j]^1
				isUnchecked(t, plain, string(b), exampleVerifier)
				b[i], b[j] = own[j], own[i]
				if own[i] != own[j] {
					isUnchecked(t, plain, string(b), exampleVerifier)
				}
			}
		}
	}
}

// Other texts of the same bits aren't the challenge.
func TestP10_2CheckOtherTexts(t *testing.T) {
	chance := rand.New(rand.NewPCG(10, 22))
	for range 500 {
		verifier := anyVerifier(chance)
		digest := sha256.Sum256([]byte(verifier))
		own := refChallenge(false, verifier)
		isChecked(t, false, own, verifier)
		for loose := 1; loose < 4; loose++ {
			end := ofDigests[strings.IndexByte(ofDigests, own[42])+loose]
			isUnchecked(t, false, own[:42]+string(end), verifier)
		}
		for _, other := range []string{
			base64.URLEncoding.EncodeToString(digest[:]), base64.StdEncoding.EncodeToString(digest[:]), base64.RawStdEncoding.EncodeToString(digest[:]),
			string(digest[:]), strings.ToUpper(own), strings.ToLower(own),
		} {
			if other != own {
				isUnchecked(t, false, other, verifier)
			}
		}
	}
}

func TestP10_2NothingBesideIsKept(t *testing.T) {
	for range 3 {
		isVerifier(t, exampleVerifier)
		isUnchecked(t, false, exampleChallenge, strings.Repeat("a", 43))
		isChecked(t, false, exampleChallenge, exampleVerifier)
		isNoVerifier(t, exampleVerifier+"=")
		isRight(t, false, exampleChallenge, true)
		isRight(t, false, exampleChallenge+"A", false)
		if err := pkce.Check(true, "", ""); err == nil {
			t.Error("Check of nothing: nil")
		}
	}
}
