package b64_test

import (
	"bytes"
	"encoding/base64"
	"errors"
	"math/rand/v2"
	"strings"
	"testing"

	"warrant/api"
	"warrant/b64"
)

const allSigns = "ABCDEFGHIJKLMNOPQRSTUVWXYZabcdefghijklmnopqrstuvwxyz0123456789-_"

// noPlace is what a wrong text is told by that has no place.
const noPlace = -1

// sample tells n bytes without a pattern, always the same ones.
func sample(n int) []byte {
	b := make([]byte, n)
	rand.NewChaCha8([32]byte{}).Read(b)
	return b
}

// refEncode tells the text by the words alone: bit by bit, in sixes.
func refEncode(b []byte) string {
	var bits []byte
	for _, c := range b {
		for i := 7; i >= 0; i-- {
			bits = append(bits, c>>i&1)
		}
	}
	for len(bits)%6 != 0 {
		bits = append(bits, 0)
	}
	text := ""
	for ; len(bits) > 0; bits = bits[6:] {
		n := 0
		for _, bit := range bits[:6] {
			n = 2*n + int(bit)
		}
		text += allSigns[n : n+1]
	}
	return text
}

// refDecode tells the bytes by the words alone: bit by bit; or the place at
// which s is wrong.
func refDecode(s string) (b []byte, place int, right bool) {
	var bits []byte
	for i := range len(s) {
		n := strings.IndexByte(allSigns, s[i])
		if n < 0 {
			return nil, i, false
		}
		for j := 5; j >= 0; j-- {
			bits = append(bits, byte(n>>j&1))
		}
	}
	if len(s)%4 == 1 {
		return nil, len(s), false
	}
	for ; len(bits) >= 8; bits = bits[8:] {
		var c byte
		for _, bit := range bits[:8] {
			c = 2*c + bit
		}
		b = append(b, c)
	}
	if bytes.IndexByte(bits, 1) >= 0 {
		return nil, len(s) - 1, false
	}
	return b, 0, true
}

// isRight tells a test that Decode of s must be the bytes want.
func isRight(t *testing.T, s string, want []byte) {
	t.Helper()
	b, err := b64.Decode(s)
	if err != nil || !bytes.Equal(b, want) {
		t.Errorf("Decode(%.40q): %.40q, %v, not %.40q", s, b, err, want)
	}
	if !b64.Right(s) {
		t.Errorf("Right(%.40q): false", s)
	}
}

// isWrong tells a test that Decode of s must tell just the error want, at a
// place, or at noPlace.
func isWrong(t *testing.T, s string, want api.Errno, place int) {
	t.Helper()
	b, err := b64.Decode(s)
	if len(b) != 0 {
		t.Errorf("Decode(%.40q): %d bytes beside an error", s, len(b))
	}
	var no api.Errno
	if !errors.Is(err, want) || !errors.As(err, &no) || no != want {
		t.Errorf("Decode(%.40q): error %v (%d), not %d", s, err, no, want)
	}
	var at *api.At
	switch found := errors.As(err, &at); {
	case place == noPlace && found:
		t.Errorf("Decode(%.40q): place %d, and should have none", s, at.Pos)
	case place != noPlace && (!found || at.Pos != place):
		t.Errorf("Decode(%.40q): %+v, not place %d", s, at, place)
	}
	if b64.Right(s) {
		t.Errorf("Right(%.40q): true", s)
	}
}

func TestP2_1EncodeKnown(t *testing.T) {
	for _, c := range []struct {
		b    []byte
		want string
	}{
		{nil, ""},
		{[]byte{}, ""},
		{[]byte{251, 255}, "-_8"},
		{[]byte{0}, "AA"},
		{[]byte{255}, "_w"},
		{[]byte{0, 0}, "AAA"},
		{[]byte{255, 255}, "__8"},
		{[]byte{0, 0, 0}, "AAAA"},
		{[]byte{255, 255, 255}, "____"},
		{[]byte("f"), "Zg"},
		{[]byte("fo"), "Zm8"},
		{[]byte("foo"), "Zm9v"},
		{[]byte("foob"), "Zm9vYg"},
		{[]byte("fooba"), "Zm9vYmE"},
		{[]byte("foobar"), "Zm9vYmFy"},
		{[]byte(`{"alg":"HS256","kid":"k1","typ":"at"}`), "eyJhbGciOiJIUzI1NiIsImtpZCI6ImsxIiwidHlwIjoiYXQifQ"},
	} {
		if got := b64.Encode(c.b); got != c.want {
			t.Errorf("Encode(%v): %q, not %q", c.b, got, c.want)
		}
	}
}

// Each sign of the 64 stands for its worth, at each of the four places.
func TestP2_1EncodeSigns(t *testing.T) {
	for n := range 64 {
		sign := allSigns[n : n+1]
		for place, want := range []string{sign + "AAA", "A" + sign + "AA", "AA" + sign + "A", "AAA" + sign} {
			w := n << (18 - 6*place)
			if got := b64.Encode([]byte{byte(w >> 16), byte(w >> 8), byte(w)}); got != want {
				t.Errorf("Encode: worth %d at %d: %q, not %q", n, place, got, want)
			}
		}
	}
}

func TestP2_1EncodeOfEachLength(t *testing.T) {
	for n := range 200 {
		for _, b := range [][]byte{sample(n), bytes.Repeat([]byte{255}, n), make([]byte, n)} {
			if got, want := b64.Encode(b), refEncode(b); got != want {
				t.Errorf("Encode of %d bytes: %q, not %q", n, got, want)
			}
		}
	}
}

// All of one and of two bytes.
func TestP2_1EncodeShort(t *testing.T) {
	for i := range 256 {
		if b := []byte{byte(i)}; b64.Encode(b) != refEncode(b) {
			t.Errorf("Encode(%v): %q", b, b64.Encode(b))
		}
		for j := range 256 {
			if b := []byte{byte(i), byte(j)}; b64.Encode(b) != refEncode(b) {
				t.Errorf("Encode(%v): %q", b, b64.Encode(b))
			}
		}
	}
}

// Encode knows no greatest length: what it tells may be more than Decode takes.
func TestP2_1EncodeLong(t *testing.T) {
	for _, n := range []int{49151, 49152, 49153, 49154, api.MaxRecord, api.MaxRecord + 1, 1<<20 + 2} {
		b := sample(n)
		if b64.Encode(b) != base64.RawURLEncoding.EncodeToString(b) {
			t.Errorf("Encode of %d bytes", n)
		}
	}
}

func TestP2_1ArgumentStays(t *testing.T) {
	room := sample(64)
	b := room[:50] // what lies behind it isn't to be touched, either
	text := b64.Encode(b)
	if !bytes.Equal(room, sample(64)) {
		t.Error("Encode changed its argument")
	}
	for i := range room {
		room[i] = 0
	}
	if text != refEncode(sample(64)[:50]) {
		t.Error("the text hangs on the argument's memory")
	}
}

func TestP2_2DecodeKnown(t *testing.T) {
	for _, c := range []struct {
		text string
		want []byte
	}{
		{"", nil},
		{"-_8", []byte{251, 255}},
		{"AA", []byte{0}},
		{"_w", []byte{255}},
		{"__8", []byte{255, 255}},
		{"____", []byte{255, 255, 255}},
		{"Zg", []byte("f")},
		{"Zm8", []byte("fo")},
		{"Zm9v", []byte("foo")},
		{"Zm9vYg", []byte("foob")},
		{"Zm9vYmE", []byte("fooba")},
		{"Zm9vYmFy", []byte("foobar")},
		{"e30", []byte("{}")},
	} {
		isRight(t, c.text, c.want)
	}
}

func TestP2_2DecodeSigns(t *testing.T) {
	for n := range 64 {
		sign := allSigns[n : n+1]
		for place, s := range []string{sign + "AAA", "A" + sign + "AA", "AA" + sign + "A", "AAA" + sign} {
			w := n << (18 - 6*place)
			isRight(t, s, []byte{byte(w >> 16), byte(w >> 8), byte(w)})
		}
	}
}

// What is wrong is told in the order of the words: a byte that is no sign,
// wherever it stands, ahead of the length, that ahead of the bits at the end.
func TestP2_2DecodeWrong(t *testing.T) {
	for _, c := range []struct {
		text  string
		place int
	}{
		{"-_9", 2},          // the examples
		{"A", 1},            //
		{"_", 1},            // one sign
		{"AAAAA", 5},        // four and one
		{"AAAAAAAA_", 9},    // eight and one
		{"AB", 1},           // bits behind one byte
		{"AP", 1},           //
		{"AI", 1},           //
		{"AAB", 2},          // bits behind two bytes
		{"AAC", 2},          //
		{"AAD", 2},          //
		{"AAAAAB", 5},       // the same behind a whole group
		{"AAAAAAB", 6},      //
		{"AA==", 2},         // no padding
		{"AAA=", 3},         //
		{"=", 0},            //
		{"+A", 0},           // the signs of base64 that aren't those of base64url
		{"A/AA", 1},         //
		{"AA\n", 2},         // no white space
		{"AAAA\r\n", 4},     //
		{" AAA", 0},         //
		{"AA AA", 2},        //
		{"AAA\x00", 3},      //
		{"AA\u00e4A", 2},    // letters of more bytes than one
		{"\xff", 0},         // bytes that are no text
		{"AAAA*", 4},        // no sign, ahead of the length
		{"*AAAA", 0},        //
		{"A*AB", 1},         //
		{"A*B", 1},          // no sign, ahead of the bits
		{"AB*", 2},          //
		{"A*A*", 1},         // the first of two
		{"AAAAAAAAAA!", 10}, //
	} {
		isWrong(t, c.text, api.ErrB64, c.place)
	}
}

// Every byte, at each place of texts of each length modulo four.
func TestP2_2DecodeEachByte(t *testing.T) {
	for _, text := range []string{"AA", "AAA", "AAAA", "AAAAA", "AAAAAA", "AAAAAAA", "A"} {
		for i := range len(text) {
			for c := range 256 {
				asReference(t, text[:i]+string([]byte{byte(c)})+text[i+1:])
			}
		}
	}
}

// All texts of at most two bytes, and all of three signs.
func TestP2_2DecodeShort(t *testing.T) {
	for i := range 256 {
		asReference(t, string([]byte{byte(i)}))
		for j := range 256 {
			asReference(t, string([]byte{byte(i), byte(j)}))
		}
	}
	for i := range 64 {
		for j := range 64 {
			for k := range 64 {
				asReference(t, string([]byte{allSigns[i], allSigns[j], allSigns[k]}))
			}
		}
	}
}

// asReference tells a test that Decode of s must be as the words say.
func asReference(t *testing.T, s string) {
	t.Helper()
	if b, place, right := refDecode(s); right {
		isRight(t, s, b)
	} else {
		isWrong(t, s, api.ErrB64, place)
	}
}

// MaxRecord bytes may be, one more may not, whatever else is wrong.
func TestP2_2DecodeLong(t *testing.T) {
	greatest := b64.Encode(sample(49152))
	if len(greatest) != api.MaxRecord {
		t.Fatalf("the text of 49152 bytes has %d", len(greatest))
	}
	isRight(t, greatest, sample(49152))
	isRight(t, greatest[:api.MaxRecord-4], sample(49152)[:49149])
	isRight(t, strings.Repeat("A", api.MaxRecord-1), make([]byte, 49151))
	isWrong(t, greatest[:api.MaxRecord-1]+"*", api.ErrB64, api.MaxRecord-1)
	isWrong(t, strings.Repeat("A", api.MaxRecord-2)+"B", api.ErrB64, api.MaxRecord-2)
	isWrong(t, strings.Repeat("A", api.MaxRecord-3), api.ErrB64, api.MaxRecord-3)
	isWrong(t, greatest+"A", api.ErrLong, noPlace)
	isWrong(t, greatest+"AA", api.ErrLong, noPlace)
	isWrong(t, greatest+"AAAA", api.ErrLong, noPlace)
	isWrong(t, "*"+greatest, api.ErrLong, noPlace)
	isWrong(t, strings.Repeat("=", 1<<20), api.ErrLong, noPlace)
}

// What was told is the caller's: it may be changed, and grown.
func TestP2_2AnswersApart(t *testing.T) {
	text := "Zm9vYmFy"
	for range 2 {
		b, err := b64.Decode(text)
		if err != nil || string(b) != "foobar" {
			t.Fatalf("Decode(%q): %q, %v", text, b, err)
		}
		for i := range b {
			b[i] = 0
		}
		_ = append(b, "more"...)
	}
	_, one := b64.Decode("A")
	_, two := b64.Decode("AA*")
	var first, second *api.At
	if !errors.As(one, &first) || !errors.As(two, &second) || first == second || first.Pos != 1 || second.Pos != 2 {
		t.Errorf("two errors: %+v and %+v", first, second)
	}
}

func TestP2_3DecodeOfEncode(t *testing.T) {
	lengths := []int{1000, 4095, 4096, 4097, 49149, 49150, 49151, 49152}
	for n := range 130 {
		lengths = append(lengths, n)
	}
	for _, n := range lengths {
		for _, b := range [][]byte{sample(n), bytes.Repeat([]byte{255}, n), make([]byte, n)} {
			isRight(t, b64.Encode(b), b)
		}
	}
	for n := 49153; n < 49160; n++ {
		isWrong(t, b64.Encode(sample(n)), api.ErrLong, noPlace)
	}
}

// Of all texts of two and of three signs, and of some longer ones: what is
// taken is the one text of its bytes.
func TestP2_3EncodeOfDecode(t *testing.T) {
	of := make(map[string]string)
	taken := func(s string) {
		b, err := b64.Decode(s)
		if err != nil {
			return
		}
		if got := b64.Encode(b); got != s {
			t.Errorf("Encode(Decode(%q)): %q", s, got)
		}
		if other, there := of[string(b)]; there {
			t.Errorf("%q and %q are of the same bytes", s, other)
		}
		of[string(b)] = s
	}
	for i := range 64 {
		for j := range 64 {
			two := string([]byte{allSigns[i], allSigns[j]})
			taken(two)
			taken("-_-_" + two)
			for k := range 64 {
				taken(two + allSigns[k:k+1])
				taken(two + "x" + allSigns[k:k+1])
			}
		}
	}
	if one, two, four := 256, 256*256, 64*64*64; len(of) != 2*one+two+four {
		t.Errorf("%d texts were taken, not %d", len(of), 2*one+two+four)
	}
}
