package jws_test

import (
	"fmt"
	"math/rand/v2"
	"strings"
	"testing"

	"warrant/api"
	"warrant/jws"
)

// signed is what Sign tells, which must be without an error.
func signed(t *testing.T, ring []api.Key, kind, payload string) string {
	t.Helper()
	text, err := jws.Sign(ring, kind, payload)
	if err != nil {
		t.Fatalf("Sign(%q, %q, %q): %v", ring, kind, payload, err)
	}
	return text
}

// isRefused tells a test that a text must not be verified, whatever the error.
func isRefused(t *testing.T, of string, ring []api.Key, kind, text string) {
	t.Helper()
	payload, kid, err := jws.Verify(ring, kind, text)
	if err == nil || payload != "" || kid != "" {
		t.Errorf("%.300s: %.300q, %q, %v", of, payload, kid, err)
	}
}

func TestP8_4SignedIsVerified(t *testing.T) {
	chance := rand.New(rand.NewPCG(8, 4))
	for range 5000 {
		ring := anyRing(chance)
		kind, payload := anyName(chance, 32), anyBytes(chance, 300)
		text := signed(t, ring, kind, payload)
		last := ring[len(ring)-1]
		of := fmt.Sprintf("%q %q %q", ring, kind, payload)
		isVerified(t, of, ring, kind, text, payload, last.Kid)
		isVerified(t, of+", by its key alone", ring[len(ring)-1:], kind, text, payload, last.Kid)
		isWrong(t, of+", as another kind", ring, anyOther(chance, kind), text, api.ErrHead)
		if front := ring[:len(ring)-1]; len(front) > 0 {
			isWrong(t, of+", without its key", front, kind, text, api.ErrKid)
		}
		other := key(last.Kid, string([]byte{last.Secret[0] ^ 1})+last.Secret[1:])
		isWrong(t, of+", another secret", []api.Key{other}, kind, text, api.ErrTag)
	}
}

// anyOther is a name, but not that one.
func anyOther(chance *rand.Rand, name string) string {
	for {
		if other := anyName(chance, 4); other != name {
			return other
		}
	}
}

// What is signed is verified till its key is the fourth behind the present one.
func TestP8_4Rotated(t *testing.T) {
	all := keys(12)
	ring := all[:1]
	texts := []string{signed(t, ring, "at", "0")}
	for i := 1; i < len(all); i++ {
		next, err := jws.Rotate(ring, all[i])
		if err != nil {
			t.Fatalf("Rotate(%q, %q): %v", ring, all[i], err)
		}
		ring = next
		texts = append(texts, signed(t, ring, "at", fmt.Sprint(i)))
		for j, text := range texts {
			of := fmt.Sprintf("%d by the ring of %d", j, i)
			if i-j < 4 {
				isVerified(t, of, ring, "at", text, fmt.Sprint(j), all[j].Kid)
			} else {
				isWrong(t, of, ring, "at", text, api.ErrKid)
			}
		}
	}
}

// Each sign of a tag turned to each other one; and each sign of all of it.
func TestP8_4Turned(t *testing.T) {
	ring := keys(3)
	text := signed(t, ring, "at", "{\"a\":1}")
	tag := strings.LastIndex(text, ".") + 1
	if len(text)-tag != 43 {
		t.Fatalf("a tag of %d signs", len(text)-tag)
	}
	for i := range len(text) {
		for _, sign := range signs + "." {
			turned := text[:i] + string(sign) + text[i+1:]
			of := fmt.Sprintf("%c at %d", sign, i)
			switch {
			case turned == text:
				isVerified(t, of, ring, "at", turned, "{\"a\":1}", "k3")
			case i >= tag && i < len(text)-1 && sign != '.':
				isWrong(t, of, ring, "at", turned, api.ErrTag)
			default:
				isRefused(t, of, ring, "at", turned)
			}
		}
		isRefused(t, fmt.Sprint("cut at ", i), ring, "at", text[:i])
		isRefused(t, fmt.Sprint("begun at ", i+1), ring, "at", text[i+1:])
		isRefused(t, fmt.Sprint("without ", i), ring, "at", text[:i]+text[i+1:])
		isRefused(t, fmt.Sprint("one more at ", i), ring, "at", text[:i]+"A"+text[i:])
	}
	isRefused(t, "one more at the end", ring, "at", text+"A")
}

// Parts of two texts, put together, are neither one.
func TestP8_4Mixed(t *testing.T) {
	ring := keys(2)
	one := strings.Split(signed(t, ring[:1], "at", "1"), ".")
	other := strings.Split(signed(t, ring, "at", "2"), ".")
	verified := 0
	for mix := range 8 {
		var parts []string
		for i := range 3 {
			parts = append(parts, [][]string{one, other}[mix>>i&1][i])
		}
		if _, _, err := jws.Verify(ring, "at", strings.Join(parts, ".")); err == nil {
			verified++
		}
	}
	if verified != 2 {
		t.Errorf("%d of 8 are verified", verified)
	}
}
