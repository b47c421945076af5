package utf_test

import (
	"bytes"
	"errors"
	"math"
	"math/bits"
	"math/rand/v2"
	"slices"
	"strings"
	"testing"
	"unicode/utf8"

	"warrant/api"
	"warrant/utf"
)

const (
	noLetter   = -1
	lastLetter = 1114111
	noPlace    = -1
)

// spelled are letters and their bytes: those at each end, and a few between.
var spelled = []struct {
	letter int
	bytes  string
}{
	{0, "\x00"},
	{10, "\x0a"},
	{65, "\x41"},
	{127, "\x7f"},
	{128, "\xc2\x80"},
	{129, "\xc2\x81"},
	{191, "\xc2\xbf"},
	{192, "\xc3\x80"},
	{233, "\xc3\xa9"},
	{2047, "\xdf\xbf"},
	{2048, "\xe0\xa0\x80"},
	{4095, "\xe0\xbf\xbf"},
	{4096, "\xe1\x80\x80"},
	{8364, "\xe2\x82\xac"},
	{55295, "\xed\x9f\xbf"},
	{57344, "\xee\x80\x80"},
	{65279, "\xef\xbb\xbf"},
	{65533, "\xef\xbf\xbd"},
	{65534, "\xef\xbf\xbe"},
	{65535, "\xef\xbf\xbf"},
	{65536, "\xf0\x90\x80\x80"},
	{128512, "\xf0\x9f\x98\x80"},
	{262143, "\xf0\xbf\xbf\xbf"},
	{262144, "\xf1\x80\x80\x80"},
	{1048576, "\xf4\x80\x80\x80"},
	{1114111, "\xf4\x8f\xbf\xbf"},
}

// notSpelled are bytes with which no letter's bytes begin.
var notSpelled = []string{
	"\x80", "\x80\x80", "\xbf", // bytes that stand behind the first
	"\xc0\x80", "\xc1\xbf", // two where one would do
	"\xe0\x80\x80", "\xe0\x80\xaf", "\xe0\x9f\xbf", // three where fewer would do
	"\xf0\x80\x80\x80", "\xf0\x80\x82\xac", "\xf0\x8f\xbf\xbf", // four where fewer would do
	"\xed\xa0\x80", "\xed\xaf\xbf", "\xed\xb0\x80", "\xed\xbf\xbf", // 55296 to 57343
	"\xed\xa0\xbd\xed\xb8\x80",                                                     // two of these for one letter
	"\xf4\x90\x80\x80", "\xf4\xbf\xbf\xbf", "\xf5\x80\x80\x80", "\xf7\xbf\xbf\xbf", // beyond the last
	"\xf8\x88\x80\x80\x80", "\xfc\x84\x80\x80\x80\x80", "\xfe", "\xff", "\xff\xff\xff\xff", // no first bytes
	"\xc2", "\xdf", "\xe2", "\xe2\x82", "\xf0", "\xf0\x9f", "\xf0\x9f\x98", // not ended
	"\xc2\x41", "\xc2\xc2", "\xc3\x00", "\xc3\xff", // what stands behind the first
	"\xe2\x41\xac", "\xe2\x82\x41", "\xe2\xc2\xac", "\xe2\x82\xec", "\xe2\x02\xac",
	"\xf0\x41\x98\x80", "\xf0\x9f\x41\x80", "\xf0\x9f\x98\x41", "\xf0\x9f\x98\xc0", "\xf0\x9f\xd8\x80",
}

// isLetter tells by the words what a letter is.
func isLetter(n int) bool {
	return 0 <= n && n <= 1114111 && !(55296 <= n && n <= 57343)
}

// refPut tells a letter's bytes by the words alone: as bits, written out.
func refPut(letter int) string {
	if !isLetter(letter) {
		return ""
	}
	var form string
	switch {
	case letter < 128:
		form = "0xxxxxxx"
	case letter < 2048:
		form = "110xxxxx10xxxxxx"
	case letter < 65536:
		form = "1110xxxx10xxxxxx10xxxxxx"
	default:
		form = "11110xxx10xxxxxx10xxxxxx10xxxxxx"
	}
	filled := []byte(form)
	for i := len(filled) - 1; i >= 0; i-- {
		if filled[i] == 'x' {
			filled[i] = '0' + byte(letter&1)
			letter >>= 1
		}
	}
	b := make([]byte, len(filled)/8)
	for i, bit := range filled {
		b[i/8] = b[i/8]<<1 | (bit - '0')
	}
	return string(b)
}

// refNext tells what Next must, by the library's own means.
func refNext(b []byte) (letter, size int) {
	r, size := utf8.DecodeRune(b)
	if r == utf8.RuneError && size < 2 {
		return noLetter, size
	}
	return int(r), size
}

// isNext tells a test what Next of b must be.
func isNext(t *testing.T, b []byte, letter, size int) {
	t.Helper()
	if l, n := utf.Next(b); l != letter || n != size {
		t.Errorf("Next(%.20q): %d, %d, not %d, %d", b, l, n, letter, size)
	}
}

// isUtf tells a test that b must pass Check.
func isUtf(t *testing.T, b string) {
	t.Helper()
	if err := utf.Check([]byte(b)); err != nil {
		t.Errorf("Check(%.20q): %+v", b, err)
	}
}

// isWrong tells a test that Check of b must tell just ErrUtf, at place.
func isWrong(t *testing.T, b string, place int) {
	t.Helper()
	err := utf.Check([]byte(b))
	var at *api.At
	if !errors.As(err, &at) || at.Pos != place {
		t.Errorf("Check(%.20q): %+v, not place %d", b, err, place)
	}
	var no api.Errno
	if !errors.Is(err, api.ErrUtf) || !errors.As(err, &no) || no != api.ErrUtf {
		t.Errorf("Check(%.20q): error %v (%d), not %d", b, err, no, api.ErrUtf)
	}
}

// found is a letter at its place.
type found struct{ place, letter int }

// all gathers what All tells.
func all(s string) []found {
	var l []found
	for place, letter := range utf.All(s) {
		l = append(l, found{place, letter})
	}
	return l
}

// refAll tells what All must, by the library's own means; and where it ends.
func refAll(s string) (l []found, end int) {
	for end < len(s) {
		letter, size := refNext([]byte(s[end:]))
		if letter == noLetter {
			break
		}
		l = append(l, found{end, letter})
		end += size
	}
	return l, end
}

// asReference tells a test that Check and All of s must be as the reference.
func asReference(t *testing.T, s string) {
	t.Helper()
	want, end := refAll(s)
	if got := all(s); !slices.Equal(got, want) {
		t.Errorf("All(%.20q): %v, not %v", s, got, want)
	}
	if end == len(s) {
		isUtf(t, s)
	} else {
		isWrong(t, s, end)
	}
}

func TestP3_1PutKnown(t *testing.T) {
	for _, c := range spelled {
		if got := utf.Put(c.letter); got != c.bytes {
			t.Errorf("Put(%d): %q, not %q", c.letter, got, c.bytes)
		}
	}
}

func TestP3_1PutNone(t *testing.T) {
	none := []int{-1, -2, -65, -128, -55296, 1114112, 1114113, 1<<21 - 1, 1 << 21, 1<<31 - 1,
		math.MinInt, math.MinInt + 65, math.MaxInt, math.MaxInt32, math.MinInt32}
	for n := 55296; n <= 57343; n++ {
		none = append(none, n)
	}
	// Numbers whose lower bits are a letter's.
	for shift := 21; shift < bits.UintSize; shift++ {
		none = append(none, 65+1<<shift, 8364+1<<shift, 65|1<<shift, 8364|1<<shift, 128512|1<<shift)
	}
	for _, n := range none {
		if got := utf.Put(n); got != "" {
			t.Errorf("Put(%d): %q, not none", n, got)
		}
	}
}

// Every number from below the first letter to beyond the last.
func TestP3_1PutEach(t *testing.T) {
	for n := -300; n <= lastLetter+70000; n++ {
		if got, want := utf.Put(n), refPut(n); got != want {
			t.Fatalf("Put(%d): %q, not %q", n, got, want)
		}
	}
}

// What stands behind a letter's bytes counts for nothing.
func TestP3_1NextKnown(t *testing.T) {
	for _, c := range spelled {
		for _, behind := range []string{"", "a", "\x80", "\xbf\xbf", "\xff", "\x00", "\xe2\x82\xac", "\xe2\x82", strings.Repeat("\x80", 70)} {
			isNext(t, []byte(c.bytes+behind), c.letter, len(c.bytes))
		}
	}
}

func TestP3_1NextNone(t *testing.T) {
	isNext(t, nil, noLetter, 0)
	isNext(t, []byte{}, noLetter, 0)
	isNext(t, []byte("abc")[:0], noLetter, 0)
	for _, s := range notSpelled {
		isNext(t, []byte(s), noLetter, 1)
		isNext(t, []byte(s+"a"), noLetter, 1)
		isNext(t, []byte(s+"\xe2\x82\xac"), noLetter, 1)
	}
}

// Bytes that lie in the same memory behind those handed in aren't any of them.
func TestP3_1NextCut(t *testing.T) {
	for _, c := range spelled {
		b := []byte(c.bytes + "\x80\x80\x80")
		for n := 1; n < len(c.bytes); n++ {
			isNext(t, b[:n], noLetter, 1)
			isNext(t, b[:n:n], noLetter, 1)
		}
	}
}

// All of one, of two and of three bytes.
func TestP3_1NextShort(t *testing.T) {
	var b [3]byte
	for n := range 1 << 24 {
		b = [3]byte{byte(n >> 16), byte(n >> 8), byte(n)}
		letter, size := utf.Next(b[:])
		if l, s := refNext(b[:]); letter != l || size != s {
			t.Fatalf("Next(%q): %d, %d, not %d, %d", b, letter, size, l, s)
		}
	}
	for n := range 1 << 16 {
		b = [3]byte{byte(n >> 8), byte(n)}
		letter, size := refNext(b[:2])
		isNext(t, b[:2], letter, size)
	}
	for n := range 1 << 8 {
		b = [3]byte{byte(n)}
		letter, size := refNext(b[:1])
		isNext(t, b[:1], letter, size)
	}
}

// All of four bytes whose first and second may be any, and whose others are at
// the ends of those that may stand there.
func TestP3_1NextOfFour(t *testing.T) {
	ends := []byte{0, 0x3f, 0x40, 0x7f, 0x80, 0x81, 0xbe, 0xbf, 0xc0, 0xff}
	for first := range 256 {
		for second := range 256 {
			for _, third := range ends {
				for _, fourth := range ends {
					b := []byte{byte(first), byte(second), third, fourth}
					letter, size := refNext(b)
					isNext(t, b, letter, size)
				}
			}
		}
	}
}

func TestP3_1ArgumentStays(t *testing.T) {
	room := []byte("\xf0\x9f\x98\x80\xe2\x82\xacz\xff\x80")
	kept := bytes.Clone(room)
	for i := range room {
		for j := i; j <= len(room); j++ {
			utf.Next(room[i:j])
			utf.Check(room[i:j])
		}
	}
	if !bytes.Equal(room, kept) {
		t.Error("an argument was changed")
	}
}

func TestP3_2CheckRight(t *testing.T) {
	if err := utf.Check(nil); err != nil {
		t.Errorf("Check of nil: %v", err)
	}
	isUtf(t, "")
	whole := ""
	for _, c := range spelled {
		isUtf(t, c.bytes)
		isUtf(t, "a"+c.bytes+"b")
		whole += c.bytes
	}
	isUtf(t, whole)
	isUtf(t, strings.Repeat(whole, 1000))
}

// The first place is told, though more is wrong behind it.
func TestP3_2CheckWrong(t *testing.T) {
	isWrong(t, "\x41\xed\xa0\x80", 1)
	isWrong(t, "\xe2\x82\xac\xc0\x80", 3)
	isWrong(t, "ab\xe2\x82", 2)
	for _, s := range notSpelled {
		isWrong(t, s, 0)
		isWrong(t, s+s, 0)
		for _, c := range spelled {
			isWrong(t, c.bytes+s, len(c.bytes))
			isWrong(t, c.bytes+"b"+s+c.bytes+s, len(c.bytes)+1)
			isWrong(t, s+c.bytes, 0)
		}
	}
}

// A letter's bytes, cut: the fault is where they begin, not where they end.
func TestP3_2CheckCut(t *testing.T) {
	for _, c := range spelled {
		for n := 1; n < len(c.bytes); n++ {
			isWrong(t, "ab"+c.bytes[:n], 2)
			isWrong(t, c.bytes+c.bytes[:n], len(c.bytes))
			isWrong(t, "ab"+c.bytes[:n]+"c", 2)
			isWrong(t, c.bytes[n:], 0)
		}
		b := []byte("ab" + c.bytes)
		if len(c.bytes) > 1 && utf.Check(b[:3]) == nil {
			t.Errorf("Check(%q) of %q looks beyond its end", b[:3], b)
		}
	}
}

// One byte put in the place of each of a text's.
func TestP3_2EachByteAtEachPlace(t *testing.T) {
	text := "a\u00e9b\u20acc\U0001f600d"
	for i := range len(text) {
		for c := range 256 {
			asReference(t, text[:i]+string([]byte{byte(c)})+text[i+1:])
		}
	}
}

// Pieces of letters and of what is none, put together without a rule.
func TestP3_2AsReference(t *testing.T) {
	chance := rand.New(rand.NewPCG(3, 2))
	for range 20000 {
		s := ""
		for range chance.IntN(6) {
			switch chance.IntN(8) {
			case 0:
				s += notSpelled[chance.IntN(len(notSpelled))]
			case 1:
				s += string([]byte{byte(chance.IntN(256))})
			default:
				s += spelled[chance.IntN(len(spelled))].bytes
			}
		}
		asReference(t, s)
	}
}

func TestP3_2CheckLong(t *testing.T) {
	long := strings.Repeat("a\u00e9\u20ac\U0001f600", 200000)
	isUtf(t, long)
	isWrong(t, long+"\xff", len(long))
	isWrong(t, long+"\xe2\x82", len(long))
	isWrong(t, "\xff"+long, 0)
	isWrong(t, long[:1000000]+"\x80"+long[1000000:], 1000000)
}

// Each fault is a value of its own: who changes one changes no other.
func TestP3_2FaultsApart(t *testing.T) {
	var first, second *api.At
	errors.As(utf.Check([]byte("a\xff")), &first)
	errors.As(utf.Check([]byte("a\xff")), &second)
	if first == nil || second == nil {
		t.Fatal("Check: no place")
	}
	first.Pos = 7
	if second.Pos != 1 {
		t.Error("two faults are one")
	}
	isWrong(t, "a\xff", 1)
}

func TestP3_2AllKnown(t *testing.T) {
	for _, c := range []struct {
		s    string
		want []found
	}{
		{"", nil},
		{"a", []found{{0, 97}}},
		{"\x00", []found{{0, 0}}},
		{"a\u00e9b\u20acc\U0001f600d", []found{{0, 97}, {1, 233}, {3, 98}, {4, 8364}, {7, 99}, {8, 128512}, {12, 100}}},
		{"\ufffd", []found{{0, 65533}}}, // a letter like others
		{"\xff", nil},
		{"\xffa", nil},
		{"a\xffb", []found{{0, 97}}},
		{"\u20ac\xe2\x82", []found{{0, 8364}}},
		{"a\xed\xa0\x80b", []found{{0, 97}}},
		{"\u20ac\xc0\x80z", []found{{0, 8364}}},
	} {
		if got := all(c.s); !slices.Equal(got, c.want) {
			t.Errorf("All(%q): %v, not %v", c.s, got, c.want)
		}
	}
}

// Who stops isn't told any more; a sequence begins anew each time.
func TestP3_2AllStops(t *testing.T) {
	text := "a\u00e9\u20ac\U0001f600z"
	want := all(text)
	seq := utf.All(text)
	for stop := range len(want) {
		var got []found
		for place, letter := range seq {
			got = append(got, found{place, letter})
			if len(got) > stop {
				break
			}
		}
		if !slices.Equal(got, want[:stop+1]) {
			t.Errorf("All(%q), stopped: %v, not %v", text, got, want[:stop+1])
		}
	}
	calls := 0
	seq(func(int, int) bool { calls++; return false })
	if calls != 1 {
		t.Errorf("All(%q) told %d letters to one who wanted one", text, calls)
	}
	if got := all(text); !slices.Equal(got, want) {
		t.Errorf("All(%q) a second time: %v", text, got)
	}
}

// A sequence may be gone through within itself.
func TestP3_2AllWithin(t *testing.T) {
	seq := utf.All("\u00e9\u20ac")
	var got []found
	for outer, letter := range seq {
		for inner := range seq {
			got = append(got, found{10*outer + inner, letter})
		}
	}
	if want := []found{{0, 233}, {2, 233}, {20, 8364}, {22, 8364}}; !slices.Equal(got, want) {
		t.Errorf("All within itself: %v, not %v", got, want)
	}
}

func TestP3_3EachLetter(t *testing.T) {
	count := 0
	for n := range lastLetter + 1 {
		b := []byte(utf.Put(n))
		if !isLetter(n) {
			if len(b) != 0 {
				t.Fatalf("Put(%d): %q", n, b)
			}
			continue
		}
		if letter, size := utf.Next(b); letter != n || size != len(b) {
			t.Fatalf("Next of Put(%d): %d, %d", n, letter, size)
		}
		count++
	}
	if count != lastLetter+1-2048 {
		t.Errorf("%d letters", count)
	}
}

// What Next tells of bytes is spelled by them: no other bytes are a letter's.
func TestP3_3BytesAreItsAlone(t *testing.T) {
	for n := range 1 << 16 {
		for _, behind := range []string{"", "\x80", "\xbf", "\x80\x80", "\xbf\xbf"} {
			b := append([]byte{byte(n >> 8), byte(n)}, behind...)
			letter, size := utf.Next(b)
			if letter != noLetter && utf.Put(letter) != string(b[:size]) {
				t.Fatalf("Next(%q): %d, whose bytes are %q", b, letter, utf.Put(letter))
			}
		}
	}
}

// Bytes that pass Check are those of the letters that All tells.
func TestP3_3CheckedIsAll(t *testing.T) {
	chance := rand.New(rand.NewPCG(3, 3))
	for range 2000 {
		var letters []int
		text := ""
		for range chance.IntN(40) {
			n := chance.IntN(1 << (1 + chance.IntN(20)))
			letters = append(letters, n)
			text += utf.Put(n)
		}
		letters = slices.DeleteFunc(letters, func(n int) bool { return !isLetter(n) })
		isUtf(t, text)
		again, i := "", 0
		for place, letter := range utf.All(text) {
			if place != len(again) || i >= len(letters) || letter != letters[i] {
				t.Fatalf("All(%q): %d at %d", text, letter, place)
			}
			again += utf.Put(letter)
			i++
		}
		if again != text || i != len(letters) {
			t.Fatalf("the letters of %q are spelled %q", text, again)
		}
	}
}
