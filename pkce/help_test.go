package pkce_test

import (
	"crypto/sha256"
	"encoding/base64"
	"errors"
	"fmt"
	"math/rand/v2"
	"regexp"
	"strings"
	"testing"
	"unsafe"

	"warrant/api"
	"warrant/pkce"
)

const (
	// ofVerifiers are all the bytes that verifiers are made of.
	ofVerifiers = "ABCDEFGHIJKLMNOPQRSTUVWXYZabcdefghijklmnopqrstuvwxyz0123456789-._~"
	// ofDigests are those of base64url, each at the place of its worth.
	ofDigests = "ABCDEFGHIJKLMNOPQRSTUVWXYZabcdefghijklmnopqrstuvwxyz0123456789-_"
	// The example of RFC 7636.
	exampleVerifier  = "dBjftJeZ4CVP-mB92K27uhbUJU1p1r_wW1gFWFOEjXk"
	exampleChallenge = "E9Melhoa2OwvFrEMTJguCHaoeK1t8URWbuGJSstw-cM"
)

var (
	bothWays = []bool{true, false}
	// allErrnos are the errors that this layer, or one of those that it calls,
	// may tell, and one more.
	allErrnos       = []api.Errno{api.ErrPkce, api.ErrB64, api.ErrLong, api.ErrArg}
	verifierPattern = regexp.MustCompile(`\A[A-Za-z0-9._~-]{43,128}\z`)
	strict          = base64.RawURLEncoding.Strict()
)

// noVerifiers are texts that are none, some of them near one.
func noVerifiers() []string {
	many := func(n int) string { return strings.Repeat("a", n) }
	texts := []string{
		"", "a", "~", many(42), many(129), many(130), many(256), many(256 + 43), many(1<<16 - 1), many(1 << 16), many(1<<16 + 1), many(1<<16 + 43), many(1 << 20),
		exampleVerifier[1:], exampleVerifier[:42], exampleVerifier + "=", exampleVerifier + "\n", "\n" + exampleVerifier, exampleVerifier + " ", " " + exampleVerifier,
		exampleVerifier + "\x00", "\x00" + exampleVerifier, exampleVerifier + "\xff", exampleVerifier + "\xc3\xa9", "\"" + exampleVerifier + "\"",
		strings.Repeat("\u00e9", 22), strings.Repeat("\u00e9", 43), strings.Repeat("\u00e9", 64), strings.Repeat("\uff41", 43), strings.Repeat("\x00", 43), strings.Repeat("\xff", 43),
		strings.Repeat(" ", 43), strings.Repeat("+", 43), strings.Repeat("/", 43), strings.Repeat("=", 43), strings.Repeat("%41", 15),
	}
	for _, near := range []string{" ", "!", "\"", "#", "$", "%", "&", "'", "(", ")", "*", "+", ",", "/", ":", ";", "<", "=", ">", "?", "@", "[", "\\", "]", "^", "`", "{", "|", "}", "\x7f", "\u00e9", "\x80"} {
		texts = append(texts, near+many(42), many(42)+near, many(21)+near+many(40))
	}
	return texts
}

// verifiers are right ones of each length, of each byte that there may be.
func verifiers() []string {
	var texts []string
	for n := 43; n <= 128; n++ {
		texts = append(texts, strings.Repeat(ofVerifiers, 4)[n-43:n-43+n])
	}
	for _, c := range ofVerifiers {
		texts = append(texts, strings.Repeat(string(c), 43), strings.Repeat(string(c), 128))
	}
	return append(texts, exampleVerifier, exampleChallenge, strings.Repeat("-", 44), strings.Repeat("._~-", 32), strings.Repeat("A", 86)+"~")
}

// refChallenge is a verifier's challenge, by the library's own means.
func refChallenge(plain bool, verifier string) string {
	if plain {
		return verifier
	}
	digest := sha256.Sum256([]byte(verifier))
	return strict.EncodeToString(digest[:])
}

// refRight tells whether a challenge may be one, by the words alone.
func refRight(plain bool, challenge string) bool {
	if plain {
		return verifierPattern.MatchString(challenge)
	}
	if strings.ContainsAny(challenge, "\r\n") {
		return false // which the library passes over
	}
	b, err := strict.DecodeString(challenge)
	return err == nil && len(b) == 32
}

// isError tells a test that err must be just ErrPkce, at no place.
func isError(t *testing.T, of string, err error) {
	t.Helper()
	var no api.Errno
	if !errors.As(err, &no) || no != api.ErrPkce {
		t.Errorf("%.300s: error %v (%d), not %d", of, err, no, api.ErrPkce)
	}
	for _, no := range allErrnos {
		if errors.Is(err, no) != (no == api.ErrPkce) {
			t.Errorf("%.300s: errors.Is of %v and %d: %v", of, err, no, no != api.ErrPkce)
		}
	}
	var at *api.At
	if errors.As(err, &at) {
		t.Errorf("%.300s: place %d, and should have none", of, at.Pos)
	}
}

// isVerifier tells a test that s must be a verifier, whose challenges are as
// the library's own means tell them.
func isVerifier(t *testing.T, s string) {
	t.Helper()
	if !pkce.Verifier(s) {
		t.Errorf("Verifier(%q): false", s)
	}
	for _, plain := range bothWays {
		want := refChallenge(plain, s)
		if got, err := pkce.Challenge(plain, s); err != nil || got != want {
			t.Errorf("Challenge(%v, %q): %q, %v, not %q", plain, s, got, err, want)
		}
	}
}

// isNoVerifier tells a test that s must be none, for any call.
func isNoVerifier(t *testing.T, s string) {
	t.Helper()
	if pkce.Verifier(s) {
		t.Errorf("Verifier(%.300q): true", s)
	}
	for _, plain := range bothWays {
		of := fmt.Sprintf("Challenge(%v, %.200q)", plain, s)
		got, err := pkce.Challenge(plain, s)
		if got != "" {
			t.Errorf("%s: %.300q beside an error", of, got)
		}
		isError(t, of, err)
		for _, challenge := range []string{refChallenge(plain, s), refChallenge(!plain, s), "", exampleVerifier, exampleChallenge} {
			isUnchecked(t, plain, challenge, s)
		}
	}
}

// isRight tells a test whether that must be what Right tells.
func isRight(t *testing.T, plain bool, challenge string, want bool) {
	t.Helper()
	if got := pkce.Right(plain, challenge); got != want {
		t.Errorf("Right(%v, %.300q): %v", plain, challenge, got)
	}
}

// isChecked tells a test that a challenge must be that of its verifier.
func isChecked(t *testing.T, plain bool, challenge, verifier string) {
	t.Helper()
	if err := pkce.Check(plain, challenge, verifier); err != nil {
		t.Errorf("Check(%v, %q, %q): %v", plain, challenge, verifier, err)
	}
}

// isUnchecked tells a test that Check must tell just ErrPkce.
func isUnchecked(t *testing.T, plain bool, challenge, verifier string) {
	t.Helper()
	of := fmt.Sprintf("Check(%v, %.140q, %.140q)", plain, challenge, verifier)
	isError(t, of, pkce.Check(plain, challenge, verifier))
}

// isOutside tells a test that the bytes of s must not lie in memory.
func isOutside(t *testing.T, s, memory string) {
	t.Helper()
	begin := uintptr(unsafe.Pointer(unsafe.StringData(memory)))
	place := uintptr(unsafe.Pointer(unsafe.StringData(s)))
	if begin <= place && place < begin+uintptr(len(memory)) {
		t.Errorf("%q lies within what was handed in", s)
	}
}

// anyOf is a text of n of the signs.
func anyOf(chance *rand.Rand, signs string, n int) string {
	b := make([]byte, n)
	for i := range b {
		b[i] = signs[chance.IntN(len(signs))]
	}
	return string(b)
}

// anyVerifier is a right one.
func anyVerifier(chance *rand.Rand) string {
	return anyOf(chance, ofVerifiers, 43+chance.IntN(86))
}

// spoiled is s with something done to it, perhaps such that it is right again.
func spoiled(chance *rand.Rand, s string) string {
	place := chance.IntN(len(s))
	sign := string([]byte{byte(chance.IntN(256))})
	switch chance.IntN(6) {
	case 0:
		return s[:place] + sign + s[place+1:]
	case 1:
		return s[:place] + sign + s[place:]
	case 2:
		return s[:place]
	case 3:
		return s[place:] + s[:place]
	case 4:
		return s + s[place:]
	}
	return s[:place] + anyOf(chance, ofVerifiers, 1) + s[place+1:]
}
