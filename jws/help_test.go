package jws_test

import (
	"crypto/hmac"
	"crypto/sha256"
	"encoding/base64"
	"errors"
	"fmt"
	"math/rand/v2"
	"regexp"
	"slices"
	"strings"
	"testing"

	"warrant/api"
	"warrant/json"
	"warrant/jws"
)

// allErrnos are the errors that this layer, or one of those that it calls, may
// tell.
var allErrnos = []api.Errno{
	api.ErrArg, api.ErrLong, api.ErrB64, api.ErrUtf, api.ErrDec, api.ErrOver, api.ErrJson, api.ErrDeep, api.ErrTwice,
	api.ErrMany, api.ErrScope, api.ErrJws, api.ErrHead, api.ErrAlg, api.ErrKid, api.ErrTag,
}

var (
	namePattern = regexp.MustCompile(`\A[a-z0-9.:_-]{1,32}\z`)
	partPattern = regexp.MustCompile(`\A[A-Za-z0-9_-]*\z`)
)

// signs are those of base64url.
const signs = "ABCDEFGHIJKLMNOPQRSTUVWXYZabcdefghijklmnopqrstuvwxyz0123456789-_"

// noNames are texts that are no names, some of them near one.
var noNames = []string{
	"", " ", "A", "K1", "kE", "k 1", " k", "k ", "k\n", "\nk", "\x00", "k\x00", "k,1", "k/1", "k+1", "k=1", "k%31", "~", "`", "{", "@", "\"k\"", "\\",
	"\u00e9", "\u20ac", "\uff41", "\xff", "k\x80", "\U0001f600", strings.Repeat("k", 33), strings.Repeat("k", 257), strings.Repeat("k", 1<<16+1), strings.Repeat("-", 1<<20),
}

// names are right ones.
var names = []string{"k", "k1", "at", "rpt", "0", "-", ".", ":", "_", "a.b:c_d-e", "abcdefghijklmnopqrstuvwxyz012345", "6789.:_-", strings.Repeat("z", 31), strings.Repeat("0", 32)}

// key is a key.
func key(kid, secret string) api.Key { return api.Key{Kid: kid, Secret: secret} }

// keys are n of them, k1 to kn, each with a secret of its own.
func keys(n int) []api.Key {
	var ring []api.Key
	for i := range n {
		ring = append(ring, key(fmt.Sprint("k", i+1), fmt.Sprint("secret ", i+1)))
	}
	return ring
}

// isError tells a test that err must be just want, and have no place.
func isError(t *testing.T, of string, err error, want api.Errno) {
	t.Helper()
	var no api.Errno
	if !errors.As(err, &no) || no != want {
		t.Errorf("%.300s: error %v (%d), not %d", of, err, no, want)
	}
	for _, no := range allErrnos {
		if errors.Is(err, no) != (no == want) {
			t.Errorf("%.300s: errors.Is of %v and %d: %v", of, err, no, no != want)
		}
	}
	var at *api.At
	if errors.As(err, &at) {
		t.Errorf("%.300s: place %d, and should have none", of, at.Pos)
	}
	if err != nil && err.Error() == "" {
		t.Errorf("%.300s: an error without words", of)
	}
}

// isRing tells a test that ring must be one.
func isRing(t *testing.T, of string, ring []api.Key) {
	t.Helper()
	if err := jws.Check(ring); err != nil {
		t.Errorf("Check, %.300s: %v", of, err)
	}
}

// isNoRing tells a test that ring must be none, for any call.
func isNoRing(t *testing.T, of string, ring []api.Key) {
	t.Helper()
	old := slices.Clone(ring)
	isError(t, "Check, "+of, jws.Check(ring), api.ErrKid)
	isNotRotated(t, of, ring, key("new", "s"))
	isNotSigned(t, of, ring, "at", "{}", api.ErrKid)
	isNotSigned(t, of, ring, "No Name", strings.Repeat("p", 5000), api.ErrKid)
	isWrong(t, of, ring, "at", written(key("k1", "secret 1"), "at", "{}"), api.ErrKid)
	isWrong(t, of, ring, "No Name", strings.Repeat("p", 5000), api.ErrKid)
	if !slices.Equal(ring, old) {
		t.Errorf("%.300s: the ring was changed", of)
	}
}

// isRotated tells a test that Rotate must tell want.
func isRotated(t *testing.T, of string, ring []api.Key, k api.Key, want []api.Key) {
	t.Helper()
	old := slices.Clone(ring)
	got, err := jws.Rotate(ring, k)
	if err != nil || !slices.Equal(got, want) {
		t.Errorf("Rotate, %.300s: %.400q, %v, not %.400q", of, got, err, want)
	}
	if !slices.Equal(ring, old) {
		t.Errorf("Rotate, %.300s: the ring was changed", of)
	}
}

// isNotRotated tells a test that Rotate must tell ErrKid.
func isNotRotated(t *testing.T, of string, ring []api.Key, k api.Key) {
	t.Helper()
	old := slices.Clone(ring)
	got, err := jws.Rotate(ring, k)
	if len(got) != 0 {
		t.Errorf("Rotate, %.300s: %.300q beside an error", of, got)
	}
	isError(t, "Rotate, "+of, err, api.ErrKid)
	if !slices.Equal(ring, old) {
		t.Errorf("Rotate, %.300s: the ring was changed", of)
	}
}

// isSigned tells a test that Sign must tell want.
func isSigned(t *testing.T, of string, ring []api.Key, kind, payload, want string) {
	t.Helper()
	got, err := jws.Sign(ring, kind, payload)
	if err != nil || got != want {
		t.Errorf("Sign, %.300s: %.500q, %v, not %.500q", of, got, err, want)
	}
}

// isNotSigned tells a test that Sign must tell just that error.
func isNotSigned(t *testing.T, of string, ring []api.Key, kind, payload string, want api.Errno) {
	t.Helper()
	text, err := jws.Sign(ring, kind, payload)
	if text != "" {
		t.Errorf("Sign, %.300s: %.300q beside an error", of, text)
	}
	isError(t, "Sign, "+of, err, want)
}

// isVerified tells a test that Verify must tell that payload and that Kid.
func isVerified(t *testing.T, of string, ring []api.Key, kind, text, payload, kid string) {
	t.Helper()
	gotPayload, gotKid, err := jws.Verify(ring, kind, text)
	if err != nil || gotPayload != payload || gotKid != kid {
		t.Errorf("Verify, %.300s: %.300q, %q, %v, not %.300q, %q", of, gotPayload, gotKid, err, payload, kid)
	}
}

// isWrong tells a test that Verify must tell just that error.
func isWrong(t *testing.T, of string, ring []api.Key, kind, text string, want api.Errno) {
	t.Helper()
	payload, kid, err := jws.Verify(ring, kind, text)
	if payload != "" || kid != "" {
		t.Errorf("Verify, %.300s: %.300q, %q beside an error", of, payload, kid)
	}
	isError(t, "Verify, "+of, err, want)
}

// code is the base64url of bytes.
func code(s string) string { return base64.RawURLEncoding.EncodeToString([]byte(s)) }

// mac is the tag by a secret.
func mac(secret, s string) string {
	h := hmac.New(sha256.New, []byte(secret))
	h.Write([]byte(s))
	return string(h.Sum(nil))
}

// withTag is two parts with the tag by a secret behind them.
func withTag(secret, body string) string { return body + "." + code(mac(secret, body)) }

// withHead is a text of any header, with the right tag by a secret.
func withHead(secret, head, payload string) string {
	return withTag(secret, code(head)+"."+code(payload))
}

// head is the header as it is written.
func head(kid, kind string) string {
	return `{"alg":"HS256","kid":"` + kid + `","typ":"` + kind + `"}`
}

// written is the signed text by a key.
func written(k api.Key, kind, payload string) string {
	return withHead(k.Secret, head(k.Kid, kind), payload)
}

// refRing tells whether ring is one, by the words alone.
func refRing(ring []api.Key) bool {
	seen := map[string]int{}
	for _, k := range ring {
		seen[k.Kid]++
		if !namePattern.MatchString(k.Kid) || seen[k.Kid] > 1 || len(k.Secret) < 1 || len(k.Secret) > 128 {
			return false
		}
	}
	return 1 <= len(ring) && len(ring) <= 4
}

// refDecode tells what a part stands for, and whether it is right.
func refDecode(part string) (string, bool) {
	b, err := base64.RawURLEncoding.Strict().DecodeString(part)
	return string(b), err == nil && partPattern.MatchString(part)
}

// refVerify tells what Verify must, by the words alone.
func refVerify(ring []api.Key, kind, text string) (payload, kid string, no api.Errno) {
	switch {
	case !refRing(ring):
		return "", "", api.ErrKid
	case !namePattern.MatchString(kind):
		return "", "", api.ErrArg
	case len(text) > 4096:
		return "", "", api.ErrLong
	case strings.Count(text, ".") != 2:
		return "", "", api.ErrJws
	}
	var decoded [3]string
	for i, part := range strings.Split(text, ".") {
		var right bool
		if decoded[i], right = refDecode(part); !right {
			return "", "", api.ErrJws
		}
	}
	header, right := refObject(decoded[0])
	if !right {
		return "", "", api.ErrHead
	}
	if header["alg"] != "HS256" {
		return "", "", api.ErrAlg
	}
	if header["typ"] != kind {
		return "", "", api.ErrHead
	}
	i := slices.IndexFunc(ring, func(k api.Key) bool { return header["kid"] == k.Kid })
	if i < 0 {
		return "", "", api.ErrKid
	}
	if decoded[2] != mac(ring[i].Secret, text[:strings.LastIndex(text, ".")]) {
		return "", "", api.ErrTag
	}
	return decoded[1], ring[i].Kid, 0
}

// refObject tells the members of an object that are texts, and whether it is one
// and has no others but those of a header. (What is JSON, layer 5 says.)
func refObject(s string) (map[string]string, bool) {
	v, err := json.Parse([]byte(s))
	if err != nil || v.Kind != api.JObj {
		return nil, false
	}
	members := map[string]string{}
	for i, name := range v.K {
		if name != "alg" && name != "kid" && name != "typ" {
			return nil, false
		}
		if v.L[i].Kind == api.JText {
			members[name] = v.L[i].S
		}
	}
	return members, true
}

// asReference tells a test that Verify must be as the reference.
func asReference(t *testing.T, of string, ring []api.Key, kind, text string) {
	t.Helper()
	if payload, kid, no := refVerify(ring, kind, text); no != 0 {
		isWrong(t, of, ring, kind, text, no)
	} else {
		isVerified(t, of, ring, kind, text, payload, kid)
	}
}

// anyBytes are up to most bytes, of any kind.
func anyBytes(chance *rand.Rand, most int) string {
	b := make([]byte, chance.IntN(most+1))
	for i := range b {
		b[i] = byte(chance.Uint32())
	}
	return string(b)
}

// anyName is a right name, up to most bytes long.
func anyName(chance *rand.Rand, most int) string {
	b := make([]byte, 1+chance.IntN(most))
	for i := range b {
		b[i] = "abcdefghijklmnopqrstuvwxyz0123456789.:_-"[chance.IntN(40)]
	}
	return string(b)
}

// anyRing is a ring.
func anyRing(chance *rand.Rand) []api.Key {
	for {
		var ring []api.Key
		for range 1 + chance.IntN(4) {
			ring = append(ring, key(anyName(chance, 32), anyBytes(chance, 128)))
		}
		if refRing(ring) {
			return ring
		}
	}
}
