package jws_test

import (
	"fmt"
	"math/rand/v2"
	"slices"
	"strings"
	"testing"

	"warrant/api"
	"warrant/jws"
)

func TestP8_3Verify(t *testing.T) {
	for _, kid := range names {
		for _, kind := range names {
			for _, payload := range []string{"", "{}", "{\"a\":1}", "a", "ab", "abc", "\x00", "\xff\xfe", "\u20ac", ".", "..", strings.Repeat("p", 2800)} {
				k := key(kid, "a secret")
				isVerified(t, fmt.Sprintf("%q %q %.50q", kid, kind, payload), []api.Key{k}, kind, written(k, kind, payload), payload, kid)
			}
		}
	}
	for n := 1; n <= 128; n++ {
		k := key("k", strings.Repeat("\xfe", n))
		isVerified(t, fmt.Sprint("a secret of ", n), []api.Key{k}, "at", written(k, "at", "{}"), "{}", "k")
	}
}

// Any key of the ring counts, and no other.
func TestP8_3VerifyEachKey(t *testing.T) {
	for n := 1; n <= 4; n++ {
		for i := range 6 {
			k := keys(6)[i]
			text, of := written(k, "at", k.Kid), fmt.Sprintf("by %d, %d keys", i, n)
			if i < n {
				isVerified(t, of, keys(n), "at", text, k.Kid, k.Kid)
			} else {
				isWrong(t, of, keys(n), "at", text, api.ErrKid)
			}
			// With the secret of another, the Kid says by which the tag must be.
			for j := range n {
				if j != i && i < n {
					isWrong(t, of+", another's Kid", keys(n), "at", written(key(keys(4)[j].Kid, k.Secret), "at", "{}"), api.ErrTag)
				}
			}
		}
	}
}

func TestP8_3WrongKind(t *testing.T) {
	text := written(keys(1)[0], "at", "{}")
	for _, kind := range noNames {
		of := fmt.Sprintf("a kind %.50q", kind)
		isWrong(t, of, keys(2), kind, text, api.ErrArg)
		isWrong(t, of+", too long", keys(2), kind, strings.Repeat("A", 5000), api.ErrArg)
		isWrong(t, of+", no text", keys(2), kind, "", api.ErrArg)
		isWrong(t, of+", in the header, too", keys(1), kind, withHead("secret 1", head("k1", kind), "{}"), api.ErrArg)
	}
}

// Texts of each length about 4096 bytes.
func TestP8_3Long(t *testing.T) {
	reached := map[int]int{}
	for _, kid := range names {
		k := key(kid, "s")
		for n := 2950; n < 3080; n++ {
			payload := strings.Repeat("p", n)
			text := written(k, "at", payload)
			if reached[len(text)]++; len(text) > 4096 {
				isWrong(t, fmt.Sprint("a text of ", len(text)), []api.Key{k}, "at", text, api.ErrLong)
			} else {
				isVerified(t, fmt.Sprint("a text of ", len(text)), []api.Key{k}, "at", text, payload, kid)
			}
		}
	}
	if reached[4095] == 0 || reached[4096] == 0 || reached[4097] == 0 {
		t.Error("the limit isn't reached, or isn't passed by one")
	}
	for _, s := range []string{"A", ".", "=", "\x00", "A.A.A"} {
		isWrong(t, "4096 of "+s, keys(1), "at", strings.Repeat(s, 4096)[:4096], api.ErrJws)
		isWrong(t, "4097 of "+s, keys(1), "at", strings.Repeat(s, 4097)[:4097], api.ErrLong)
		isWrong(t, "65537 of "+s, keys(1), "at", strings.Repeat(s, 65537)[:65537], api.ErrLong)
		isWrong(t, "a million of "+s, keys(1), "at", strings.Repeat(s, 1000000), api.ErrLong)
	}
}

// A header, a payload and a tag may be of no bytes, but then the header is none.
func TestP8_3Dots(t *testing.T) {
	h := code(head("k1", "at"))
	tag := code(mac("secret 1", h+".e30"))
	for _, text := range []string{
		"", "e30", h, h + ".e30", h + "." + tag, ".", h + ".", "." + tag, h + "e30" + tag,
		"...", h + ".e30." + tag + ".", "." + h + ".e30." + tag, h + "..e30." + tag, h + ".e30.." + tag, h + ".e30.x." + tag,
		withTag("secret 1", h), withTag("secret 1", h+".e30.e30"), withTag("secret 1", h+".e30."), withTag("secret 1", "."+h+".e30"),
		strings.Repeat(".", 4096), h + "\u3002e30\u3002" + tag, h + ",e30," + tag, h + ":e30:" + tag,
	} {
		isWrong(t, text, keys(1), "at", text, api.ErrJws)
	}
	isWrong(t, "three empty parts", keys(1), "at", "..", api.ErrHead)
	isWrong(t, "no header", keys(1), "at", withTag("secret 1", ".e30"), api.ErrHead)
	isWrong(t, "no tag", keys(1), "at", h+".e30.", api.ErrTag)
	isWrong(t, "a header alone", keys(1), "at", h+"..", api.ErrTag)
	isVerified(t, "no payload", keys(1), "at", withTag("secret 1", h+"."), "", "k1")
}

// Each byte at each place of each part, where it is no sign; and other ways in
// which a part is no base64url.
func TestP8_3NoBase64(t *testing.T) {
	h, p := code(head("k1", "at")), "e30x"
	whole := withTag("secret 1", h+"."+p)
	for place := range len(whole) {
		for c := range 256 {
			if s := string([]byte{byte(c)}); !strings.Contains(signs, s) && whole[place:place+1] != "." {
				isWrong(t, fmt.Sprintf("%q at %d", s, place), keys(1), "at", whole[:place]+s+whole[place+1:], api.ErrJws)
			}
		}
	}
	tag := code(mac("secret 1", h+"."+p))
	for _, wrong := range []string{"A", "AAAAA", "AB", "AAB", "A===", "AA==", "AAA=", "AAAA====", "=", "-_/A", "-_+A", "AA A", " AAA", "AAA ", "AA\nA", "AAA\n", "AA\r\n", "\u00e9", "\xff", "\x00"} {
		isWrong(t, wrong+" as the header", keys(1), "at", withTag("secret 1", wrong+"."+p), api.ErrJws)
		isWrong(t, wrong+" as the payload", keys(1), "at", withTag("secret 1", h+"."+wrong), api.ErrJws)
		isWrong(t, wrong+" as the tag", keys(1), "at", h+"."+p+"."+wrong, api.ErrJws)
		isWrong(t, wrong+" behind the payload", keys(1), "at", withTag("secret 1", h+"."+p+wrong), api.ErrJws)
		isWrong(t, wrong+" behind the tag", keys(1), "at", h+"."+p+"."+tag[:40]+wrong, api.ErrJws)
	}
	// Bits that are left over must be 0.
	last := strings.IndexByte(signs, tag[42])
	for more := 1; more < 4; more++ {
		isWrong(t, "a tag with more bits", keys(1), "at", h+"."+p+"."+tag[:42]+signs[last|more:last|more+1], api.ErrJws)
	}
}

// Headers that aren't JSON, or not an object of just those members.
func TestP8_3Header(t *testing.T) {
	right := head("k1", "at")
	for _, header := range []string{
		"", " ", "{", "}", right[1:], right[:len(right)-1], right + right, right + "x", right + "\x00", "x" + right, "\ufeff" + right,
		"null", "true", "0", "\"HS256\"", "[]", "[" + right + "]", "\"" + right + "\"", "[\"alg\",\"kid\",\"typ\"]",
		`{"alg":"HS256","kid":"k1","typ":"at",}`, `{'alg':'HS256','kid':'k1','typ':'at'}`, `{alg:"HS256","kid":"k1","typ":"at"}`,
		`{"alg":"HS256","alg":"HS256","kid":"k1","typ":"at"}`, `{"alg":"HS256","kid":"k1","typ":"at","typ":"at"}`,
		`{"alg":"HS256","kid":"k2","\u006bid":"k1","typ":"at"}`, `{"alg":"none","alg":"HS256","kid":"k1","typ":"at"}`,
		`{"alg":"HS256","kid":"k1","typ":"at","x":1}`, `{"alg":"HS256","kid":"k1","typ":"at","":1}`, `{"":null}`, `{"x":1}`,
		`{"alg":"HS256","kid":"k1","typ":"at","crit":[]}`, `{"alg":"HS256","kid":"k1","typ":"at","cty":"JWT"}`, `{"alg":"HS256","kid":"k1","typ":"at","jwk":{}}`,
		`{"alg":"HS256","kid":"k1","typ":"at","Alg":"HS256"}`, `{"alg":"HS256","kid":"k1","typ":"at","alg ":"HS256"}`, `{"alg":"HS256","kid":"k1","typ":"at","al":1}`,
		`{"alg":"none","kid":"k1","typ":"at","x":1}`, `{"alg":"none","x":1}`, `{"ALG":"HS256","kid":"k1","typ":"at"}`,
		`{"alg":"HS256","kid":"k1","typ":1.5}`, `{"alg":"HS256","kid":"k1","typ":9007199254740992}`, `{"alg":"HS256","kid":"k1","typ":[[[[[[[[[]]]]]]]]]}`,
		`{"alg":"HS256","kid":"k1","typ":[` + strings.Repeat("0,", 300) + `0]}`, `{"alg":"none","kid":"k1","typ":-0}`,
		`{"alg":"HS256","kid":"k1","typ":"at` + "\xff" + `"}`, `{"alg":"HS256","kid":"k1","typ":"at` + "\x00" + `"}`, `{"alg":"none","kid":"\ud800","typ":"at"}`,
	} {
		isWrong(t, "the header "+header, keys(1), "at", withHead("secret 1", header, "{}"), api.ErrHead)
	}
}

// However the right header is written, the tag is that of the text as it is.
func TestP8_3HeaderOtherwise(t *testing.T) {
	for _, header := range []string{
		`{"typ":"at","kid":"k1","alg":"HS256"}`, `{"kid":"k1","alg":"HS256","typ":"at"}`, ` { "alg" : "HS256" , "kid" : "k1" , "typ" : "at" } `,
		"{\"typ\":\"at\",\r\n \"alg\":\"HS256\",\t\"kid\":\"k1\"}\n", `{"\u0061lg":"HS\u003256","k\u0069d":"\u006b1","typ":"\u0061\u0074"}`,
		head("k1", "at") + strings.Repeat(" ", 2900),
	} {
		isVerified(t, "the header "+header, keys(2), "at", withHead("secret 1", header, "{}"), "{}", "k1")
		body := code(header) + "." + code("{}")
		usual := code(mac("secret 1", code(head("k1", "at"))+"."+code("{}")))
		isWrong(t, "the usual tag with "+header, keys(2), "at", body+"."+usual, api.ErrTag)
	}
}

// others are values of JSON that are no text s.
func others(s string) []string {
	return []string{
		"null", "true", "false", "0", "256", "-1", "[]", "{}", `["` + s + `"]`, `{"` + s + `":"` + s + `"}`, `""`, `" "`,
		`" ` + s + `"`, `"` + s + ` "`, `"` + s + `\u0000"`, `"` + s + s + `"`, `"` + s[1:] + `"`, `"` + s[:len(s)-1] + `"`, `"` + strings.Repeat(s, 100) + `"`,
		`"x` + s + `"`, `"` + s + `x"`, `"\u00e9"`, `"*"`, `"` + s + `,` + s + `"`,
	}
}

func TestP8_3Algorithm(t *testing.T) {
	wrong := append(others("HS256"), `"none"`, `"None"`, `"NONE"`, `"nOnE"`, `"hs256"`, `"Hs256"`, `"HS384"`, `"HS512"`, `"HS1"`, `"RS256"`, `"ES256"`, `"PS256"`, `"EdDSA"`, `"dir"`, `"A256GCM"`, `"HS257"`, `"HS 256"`, `"at"`, `"k1"`)
	for _, alg := range wrong {
		header := `{"alg":` + alg + `,"kid":"k1","typ":"at"}`
		isWrong(t, "the header "+header, keys(1), "at", withHead("secret 1", header, "{}"), api.ErrAlg)
		isWrong(t, "no tag, the header "+header, keys(1), "at", code(header)+"."+code("{}")+".", api.ErrAlg)
		// Whatever else is wrong behind it.
		isWrong(t, "wrong members", keys(1), "at", withHead("secret 1", `{"alg":`+alg+`,"kid":"k9","typ":"rpt"}`, "{}"), api.ErrAlg)
		isWrong(t, "alg alone", keys(1), "at", withHead("secret 1", `{"alg":`+alg+`}`, "{}"), api.ErrAlg)
	}
	for _, header := range []string{`{}`, `{"kid":"k1","typ":"at"}`, `{"typ":"HS256"}`, `{"kid":"HS256"}`, `{"kid":7,"typ":[]}`} {
		isWrong(t, "the header "+header, keys(1), "at", withHead("secret 1", header, "{}"), api.ErrAlg)
	}
}

func TestP8_3Typ(t *testing.T) {
	wrong := append(others("at"), `"AT"`, `"At"`, `"rpt"`, `"at+jwt"`, `"JWT"`, `"HS256"`, `"k1"`, `"a.t"`)
	for _, typ := range wrong {
		header := `{"alg":"HS256","kid":"k1","typ":` + typ + `}`
		isWrong(t, "the header "+header, keys(1), "at", withHead("secret 1", header, "{}"), api.ErrHead)
		isWrong(t, "a wrong kid, too", keys(1), "at", withHead("secret 1", `{"alg":"HS256","kid":"k9","typ":`+typ+`}`, "{}"), api.ErrHead)
		isWrong(t, "a wrong tag, too", keys(1), "at", withHead("x", header, "{}"), api.ErrHead)
	}
	for _, header := range []string{`{"alg":"HS256"}`, `{"alg":"HS256","kid":"k1"}`, `{"alg":"HS256","kid":"at"}`} {
		isWrong(t, "the header "+header, keys(1), "at", withHead("secret 1", header, "{}"), api.ErrHead)
	}
	// The kind is that which is asked for.
	for _, kind := range names {
		text := written(keys(1)[0], kind, "{}")
		for _, asked := range names {
			if asked == kind {
				isVerified(t, kind, keys(1), asked, text, "{}", "k1")
			} else {
				isWrong(t, kind+" as "+asked, keys(1), asked, text, api.ErrHead)
			}
		}
	}
}

func TestP8_3Kid(t *testing.T) {
	wrong := append(others("k1"), `"K1"`, `"k2"`, `"k0"`, `"k01"`, `"at"`, `"HS256"`, `"secret 1"`)
	for _, kid := range wrong {
		header := `{"alg":"HS256","kid":` + kid + `,"typ":"at"}`
		isWrong(t, "the header "+header, keys(1), "at", withHead("secret 1", header, "{}"), api.ErrKid)
		isWrong(t, "a wrong tag, too", keys(1), "at", withHead("x", header, "{}"), api.ErrKid)
	}
	isWrong(t, "no kid", keys(1), "at", withHead("secret 1", `{"alg":"HS256","typ":"at"}`, "{}"), api.ErrKid)
	isWrong(t, "no kid, four keys", keys(4), "at", withHead("secret 4", `{"alg":"HS256","typ":"at"}`, "{}"), api.ErrKid)
}

func TestP8_3Tag(t *testing.T) {
	body := code(head("k1", "at")) + "." + code("{}")
	right := mac("secret 1", body)
	for what, tag := range map[string]string{
		"no tag": "", "a byte": right[:1], "one byte less": right[:31], "the last 31": right[1:], "one byte more": right + "\x00", "twice": right + right,
		"half": right[:16], "bytes 0": strings.Repeat("\x00", 32), "bytes 255": strings.Repeat("\xff", 32), "the text of it": code(right),
		"by another key": mac("secret 2", body), "by the Kid": mac("k1", body), "by no secret": mac("", body), "by a longer secret": mac("secret 1\x01", body),
		"of the header": mac("secret 1", code(head("k1", "at"))), "of the payload": mac("secret 1", code("{}")), "of a dot more": mac("secret 1", body+"."),
		"of what was written out": mac("secret 1", head("k1", "at")+".{}"), "of no dot": mac("secret 1", strings.ReplaceAll(body, ".", "")), "of nothing": mac("secret 1", ""),
	} {
		isWrong(t, what, keys(4), "at", body+"."+code(tag), api.ErrTag)
	}
	for i := range right {
		for bit := range 8 {
			turned := []byte(right)
			turned[i] ^= 1 << bit
			isWrong(t, fmt.Sprintf("bit %d of byte %d turned", bit, i), keys(1), "at", body+"."+code(string(turned)), api.ErrTag)
		}
	}
	isVerified(t, "the right one", keys(4), "at", body+"."+code(right), "{}", "k1")
}

// All sets of faults: the first that the chapter names is told.
func TestP8_3FirstOfMany(t *testing.T) {
	for faults := range 1 << 9 {
		has := func(i int) bool { return faults>>i&1 == 1 }
		ring, kind, payload := keys(2), "at", "{}"
		alg, typ, kid, more, secret := "HS256", "at", "k1", "", "secret 1"
		want := api.Errno(0)
		tell := func(no api.Errno) {
			if want == 0 {
				want = no
			}
		}
		if has(0) {
			ring = append(ring, key("k1", "s"))
			tell(api.ErrKid)
		}
		if has(1) {
			kind = "Kind"
			tell(api.ErrArg)
		}
		if has(2) {
			payload = strings.Repeat("p", 4000)
			tell(api.ErrLong)
		}
		if has(3) {
			tell(api.ErrJws)
		}
		if has(4) {
			more = `,"x":1`
			tell(api.ErrHead)
		}
		if has(5) {
			alg = "none"
			tell(api.ErrAlg)
		}
		if has(6) {
			typ = "rpt"
			tell(api.ErrHead)
		}
		if has(7) {
			kid = "k3"
			tell(api.ErrKid)
		}
		if has(8) {
			secret = "another"
			tell(api.ErrTag)
		}
		text := withHead(secret, `{"alg":"`+alg+`","kid":"`+kid+`","typ":"`+typ+`"`+more+`}`, payload)
		for _, broken := range []string{"=", ".", ".e30"} {
			if !has(3) {
				broken = ""
			}
			of := fmt.Sprintf("faults %09b", faults)
			if want == 0 {
				isVerified(t, of, ring, kind, text+broken, payload, kid)
			} else {
				isWrong(t, of, ring, kind, text+broken, want)
			}
		}
	}
}

// Texts of any faults, as the reference tells.
func TestP8_3AsReference(t *testing.T) {
	chance := rand.New(rand.NewPCG(8, 3))
	algs := []string{`"HS256"`, `"HS256"`, `"HS256"`, `"HS256"`, `"none"`, `"HS512"`, "1", `"HS\u00325\u0036"`}
	blanks := []string{"", "", "", " ", "\n", "\t\r"}
	for range 20000 {
		ring := anyRing(chance)
		k := ring[chance.IntN(len(ring))]
		kind := anyName(chance, 3)
		kid := []string{k.Kid, k.Kid, k.Kid, ring[0].Kid, anyName(chance, 3)}[chance.IntN(5)]
		typ := []string{kind, kind, kind, anyName(chance, 3)}[chance.IntN(4)]
		members := []string{`"alg":` + algs[chance.IntN(len(algs))], `"kid":"` + kid + `"`, `"typ":"` + typ + `"`}
		if chance.IntN(8) == 0 {
			members = append(members, []string{`"x":1`, members[0], "", `"":""`}[chance.IntN(4)])
		}
		chance.Shuffle(len(members), func(i, j int) { members[i], members[j] = members[j], members[i] })
		members = members[:len(members)-chance.IntN(8)/7]
		blank := blanks[chance.IntN(len(blanks))]
		header := blank + "{" + blank + strings.Join(members, blank+","+blank) + blank + "}" + blank
		text := []byte(withHead(k.Secret, header, anyBytes(chance, 40)))
		for range chance.IntN(6) - 4 {
			text[chance.IntN(len(text))] = (signs + "..=\x00")[chance.IntN(68)]
		}
		old := slices.Clone(ring)
		asReference(t, fmt.Sprintf("%q, %q, %q", ring, header, text), ring, kind, string(text))
		if !slices.Equal(ring, old) {
			t.Errorf("the ring was changed: %q, of %q", ring, old)
		}
	}
}

// What is told lies in no memory that was handed in.
func TestP8_3NothingShared(t *testing.T) {
	memory := "first" + "secret" + written(key("first", "secret"), "at", "a payload of some bytes")
	ring := []api.Key{key(memory[:5], memory[5:11])}
	payload, kid, err := jws.Verify(ring, "at", memory[11:])
	if err != nil || payload != "a payload of some bytes" || kid != "first" {
		t.Fatalf("Verify: %q, %q, %v", payload, kid, err)
	}
	isOutside(t, payload, memory)
	isOutside(t, kid, memory)
}
