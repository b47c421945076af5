package jws_test

import (
	"fmt"
	"math/rand/v2"
	"slices"
	"strings"
	"testing"

	"warrant/api"
)

func TestP8_2SignKnown(t *testing.T) {
	for _, one := range []struct {
		kid, secret, kind, payload, want string
	}{
		{"k1", "secret", "at", "{}", "eyJhbGciOiJIUzI1NiIsImtpZCI6ImsxIiwidHlwIjoiYXQifQ.e30.ITKcm1cqKRnu5Q8nOsC29OGjeDjz8hhqeoftWOBBK_I"},
		{"k1", "secret", "rpt", "", "eyJhbGciOiJIUzI1NiIsImtpZCI6ImsxIiwidHlwIjoicnB0In0..XenKM85WK6yeS7RXeYdoMdtPgCnAyfPXyS5xaNX8occ"},
		{"a.b:c_d-e", strings.Repeat("\x00\xff", 64), "x", "\x00\xfb\xff", "eyJhbGciOiJIUzI1NiIsImtpZCI6ImEuYjpjX2QtZSIsInR5cCI6IngifQ.APv_.sDT0Iw-r9Wl1I-JVKil8ikjV-GWTIlffuwNHxo9MTlk"},
	} {
		ring := []api.Key{key(one.kid, one.secret)}
		isSigned(t, "by "+one.kid, ring, one.kind, one.payload, one.want)
		isVerified(t, "by "+one.kid, ring, one.kind, one.want, one.payload, one.kid)
	}
}

// Each kind and each Kid of those that are names, with payloads of any bytes.
func TestP8_2Sign(t *testing.T) {
	payloads := []string{"", "{}", "{\"a\":1}", "a", "ab", "abc", "abcd", "\x00", "\xff\xfe", "\u20ac", ".", "..", strings.Repeat("p", 2000)}
	for _, kid := range names {
		for _, kind := range names {
			for _, payload := range payloads {
				k := key(kid, "a secret")
				isSigned(t, fmt.Sprintf("%q %q %.50q", kid, kind, payload), []api.Key{k}, kind, payload, written(k, kind, payload))
			}
		}
	}
	for c := range 256 {
		s := string([]byte{byte(c)})
		k := key("k", s)
		isSigned(t, fmt.Sprintf("a secret and a payload %q", s), []api.Key{k}, "at", s, written(k, "at", s))
	}
	for n := 1; n <= 128; n++ {
		k := key("k", strings.Repeat("s", n))
		isSigned(t, fmt.Sprint("a secret of ", n), []api.Key{k}, "at", "{}", written(k, "at", "{}"))
	}
}

// The last key signs.
func TestP8_2SignPresentKey(t *testing.T) {
	for n := 1; n <= 4; n++ {
		isSigned(t, fmt.Sprint(n, " keys"), keys(n), "at", "{}", written(keys(n)[n-1], "at", "{}"))
	}
	turned := keys(4)
	slices.Reverse(turned)
	isSigned(t, "4 keys turned", turned, "at", "{}", written(key("k1", "secret 1"), "at", "{}"))
}

// Payloads of each length about that at which the text has 4096 bytes.
func TestP8_2SignLong(t *testing.T) {
	reached := map[int]int{}
	for _, kid := range names {
		k := key(kid, "s")
		for _, kind := range []string{"a", "at", "rpt", "four"} {
			for n := 2900; n < 3080; n++ {
				of := fmt.Sprintf("%q %q, a payload of %d", kid, kind, n)
				payload := strings.Repeat("p", n)
				text := written(k, kind, payload)
				if reached[len(text)]++; len(text) > 4096 {
					isNotSigned(t, of, []api.Key{k}, kind, payload, api.ErrLong)
				} else {
					isSigned(t, of, []api.Key{k}, kind, payload, text)
				}
			}
		}
	}
	if reached[4095] == 0 || reached[4096] == 0 || reached[4097] == 0 {
		t.Error("the limit isn't reached, or isn't passed by one")
	}
	for _, n := range []int{3100, 4095, 4096, 4097, 8192, 49152, 49153, 65536, 65537, 1 << 20} {
		isNotSigned(t, fmt.Sprint("a payload of ", n), keys(1), "at", strings.Repeat("p", n), api.ErrLong)
	}
}

func TestP8_2SignWrongKind(t *testing.T) {
	for _, kind := range noNames {
		isNotSigned(t, fmt.Sprintf("a kind %.50q", kind), keys(2), kind, "{}", api.ErrArg)
		isNotSigned(t, fmt.Sprintf("a kind %.50q, and too long", kind), keys(2), kind, strings.Repeat("p", 5000), api.ErrArg)
	}
	for c := range 256 {
		kind := "a" + string([]byte{byte(c)})
		if namePattern.MatchString(kind) {
			isSigned(t, kind, keys(1), kind, "", written(keys(1)[0], kind, ""))
		} else {
			isNotSigned(t, fmt.Sprintf("%q", kind), keys(1), kind, "", api.ErrArg)
		}
	}
}

func TestP8_2AsReference(t *testing.T) {
	chance := rand.New(rand.NewPCG(8, 2))
	for range 5000 {
		ring := anyRing(chance)
		kind, payload := anyName(chance, 32), anyBytes(chance, 200)
		old := slices.Clone(ring)
		isSigned(t, fmt.Sprintf("%q %q %q", ring, kind, payload), ring, kind, payload, written(ring[len(ring)-1], kind, payload))
		if !slices.Equal(ring, old) {
			t.Errorf("the ring was changed: %q, of %q", ring, old)
		}
	}
}
