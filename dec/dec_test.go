package dec_test

import (
	"errors"
	"math"
	"math/big"
	"math/rand/v2"
	"regexp"
	"strconv"
	"strings"
	"testing"

	"warrant/api"
	"warrant/dec"
)

const (
	least = math.MinInt64
	most  = math.MaxInt64
)

// noPlace is what an error is told by that has no place.
const noPlace = -1

// texts are numbers and their texts: those at each end, and about each power
// of ten and of two that is of weight.
var texts = []struct {
	n    int64
	text string
}{
	{0, "0"},
	{1, "1"},
	{-1, "-1"},
	{7, "7"},
	{9, "9"},
	{-9, "-9"},
	{10, "10"},
	{-10, "-10"},
	{11, "11"},
	{99, "99"},
	{-99, "-99"},
	{100, "100"},
	{-100, "-100"},
	{101, "101"},
	{1000000007, "1000000007"},
	{255, "255"},
	{256, "256"},
	{65535, "65535"},
	{65536, "65536"},
	{2147483647, "2147483647"},
	{2147483648, "2147483648"},
	{-2147483648, "-2147483648"},
	{-2147483649, "-2147483649"},
	{4294967295, "4294967295"},
	{4294967296, "4294967296"},
	{api.MaxInt, "9007199254740991"},
	{-api.MaxInt, "-9007199254740991"},
	{api.MaxNow, "1099511627776"},
	{999999999999999999, "999999999999999999"},
	{1000000000000000000, "1000000000000000000"},
	{-1000000000000000000, "-1000000000000000000"},
	{9223372036854775799, "9223372036854775799"},
	{9223372036854775800, "9223372036854775800"},
	{9223372036854775806, "9223372036854775806"},
	{9223372036854775807, "9223372036854775807"},
	{-9223372036854775807, "-9223372036854775807"},
	{-9223372036854775808, "-9223372036854775808"},
}

// tooGreat are texts of numbers beyond those of an int64: some of them would be
// within it if they went round.
var tooGreat = []string{
	"9223372036854775808", "9223372036854775809", "9223372036854775810", "9223372036854775817",
	"-9223372036854775809", "-9223372036854775810", "-9223372036854775818",
	"9999999999999999999", "-9999999999999999999",
	"10000000000000000000", "-10000000000000000000",
	"18446744073709551614", "18446744073709551615", "18446744073709551616", "18446744073709551617",
	"18446744073709551623", "18446744073709551716", "-18446744073709551615", "-18446744073709551616", "-18446744073709551617",
	"27670116110564327423", "27670116110564327424", "36893488147419103232", "36893488147419103239",
	"92233720368547758070", "92233720368547758080", "-92233720368547758080",
	"100000000000000000000", "184467440737095516160", "340282366920938463463374607431768211456",
	"340282366920938463463374607431768211463", "-340282366920938463463374607431768211455",
}

// leads are texts, and how many bytes at their beginning are a number's text.
var leads = []struct {
	text string
	want int
}{
	{"", 0},
	{"-", 0}, // alone it is none
	{"--", 0},
	{"--1", 0},
	{"-0", 0}, // 0 isn't below 0
	{"-00", 0},
	{"-01", 0},
	{"-0.5", 0},
	{"- 1", 0},
	{"-a", 0},
	{"-+1", 0},
	{"+", 0},
	{"+1", 0},
	{"+0", 0},
	{" 1", 0},
	{"\t1", 0},
	{"\n1", 0},
	{"a", 0},
	{"a1", 0},
	{".5", 0},
	{"_1", 0},
	{"\x001", 0},
	{"/", 0}, // the bytes beside those of the digits
	{":", 0},
	{"-/", 0},
	{"-:", 0},
	{"\xff1", 0},
	{"\u0661", 0}, // digits of other scripts
	{"\uff11", 0},
	{"-\u0661", 0},
	{"\u22121", 0}, // a minus of more bytes than one
	{"0", 1},
	{"00", 1}, // a 0 ahead: 0 alone is a number's text
	{"007", 1},
	{"01", 1},
	{"0x10", 1},
	{"0.5", 1},
	{"0-", 1},
	{"0 ", 1},
	{"0e1", 1},
	{"0\x00", 1},
	{"00000000000000000000000000", 1},
	{"7", 1},
	{"1-2", 1},
	{"1-", 1},
	{"1 ", 1},
	{"1\n", 1},
	{"1.5", 1},
	{"1e5", 1},
	{"1_000", 1},
	{"1,000", 1},
	{"1+1", 1},
	{"1a", 1},
	{"1/", 1},
	{"1:", 1},
	{"1\x00", 1},
	{"1\xff", 1},
	{"1\u0662", 1},
	{"10", 2},
	{"-1", 2},
	{"-1-1", 2},
	{"-1.5", 2},
	{"-7:", 2},
	{"-7/", 2},
	{"100", 3},
	{"-10", 3},
	{"-109a", 4},
	{"1234567890", 10},
	{"1234567890x1", 10},
	{"-1234567890-", 11},
	{"9223372036854775808", 19}, // however great
	{"-9223372036854775809", 20},
	{"18446744073709551616 ", 20},
}

// number is what a number's text is by the words, as a pattern.
var number = regexp.MustCompile(`^(0|-?[1-9][0-9]*)$`)

// refLead tells what Lead must, by the words alone: of all beginnings the
// longest one that is a number's text.
func refLead(s string) int {
	for end := len(s); end > 0; end-- {
		if number.MatchString(s[:end]) {
			return end
		}
	}
	return 0
}

// isRead tells a test that Read of s must be n.
func isRead(t *testing.T, s string, least, most, n int64) {
	t.Helper()
	if got, err := dec.Read(s, least, most); err != nil || got != n {
		t.Errorf("Read(%.40q, %d, %d): %d, %v, not %d", s, least, most, got, err, n)
	}
}

// isWrong tells a test that Read of s must tell just the error want, at a
// place, or at noPlace.
func isWrong(t *testing.T, s string, least, most int64, want api.Errno, place int) {
	t.Helper()
	n, err := dec.Read(s, least, most)
	if n != 0 {
		t.Errorf("Read(%.40q, %d, %d): %d beside an error", s, least, most, n)
	}
	var no api.Errno
	if !errors.Is(err, want) || !errors.As(err, &no) || no != want {
		t.Errorf("Read(%.40q, %d, %d): error %v (%d), not %d", s, least, most, err, no, want)
	}
	var at *api.At
	switch found := errors.As(err, &at); {
	case place == noPlace && found:
		t.Errorf("Read(%.40q, %d, %d): place %d, and should have none", s, least, most, at.Pos)
	case place != noPlace && (!found || at.Pos != place):
		t.Errorf("Read(%.40q, %d, %d): %+v, not place %d", s, least, most, at, place)
	}
}

// isNoNumber tells a test that Read of s must tell ErrDec at place, whatever
// the bounds are.
func isNoNumber(t *testing.T, s string, place int) {
	t.Helper()
	isWrong(t, s, least, most, api.ErrDec, place)
	isWrong(t, s, 0, 0, api.ErrDec, place)
	isWrong(t, s, 5, -5, api.ErrDec, place)
	isWrong(t, s, most, most, api.ErrDec, place)
	isWrong(t, s, most, least, api.ErrDec, place)
}

// isOver tells a test that Read of s, a number's text, must tell ErrOver.
func isOver(t *testing.T, s string, least, most int64) {
	t.Helper()
	isWrong(t, s, least, most, api.ErrOver, noPlace)
}

// asReference tells a test that Lead and Read of s must be as the words say.
func asReference(t *testing.T, s string, least, most int64) {
	t.Helper()
	lead := refLead(s)
	if got := dec.Lead(s); got != lead {
		t.Errorf("Lead(%.40q): %d, not %d", s, got, lead)
	}
	if !number.MatchString(s) {
		isWrong(t, s, least, most, api.ErrDec, lead)
		return
	}
	n, _ := new(big.Int).SetString(s, 10)
	if n.Cmp(big.NewInt(least)) < 0 || n.Cmp(big.NewInt(most)) > 0 {
		isOver(t, s, least, most)
		return
	}
	isRead(t, s, least, most, n.Int64())
}

// anyNumber tells a number of any length, each length as likely.
func anyNumber(chance *rand.Rand) int64 {
	return int64(chance.Uint64()) >> chance.IntN(64)
}

func TestP4_1PrintKnown(t *testing.T) {
	for _, c := range texts {
		if got := dec.Print(c.n); got != c.text {
			t.Errorf("Print(%d): %q, not %q", c.n, got, c.text)
		}
	}
}

// All numbers about 0, and those about each power of two and of ten.
func TestP4_1PrintAsReference(t *testing.T) {
	isPrinted := func(n int64) {
		if got, want := dec.Print(n), strconv.FormatInt(n, 10); got != want {
			t.Errorf("Print(%d): %q, not %q", n, got, want)
		}
	}
	for n := int64(-200000); n <= 200000; n++ {
		isPrinted(n)
	}
	for by := int64(-12); by <= 12; by++ {
		for shift := range 64 {
			isPrinted(1<<shift + by)
			isPrinted(-1<<shift + by)
		}
		for power, n := 0, int64(1); power <= 18; power++ {
			isPrinted(n + by)
			isPrinted(by - n)
			n *= 10
		}
	}
	chance := rand.New(rand.NewPCG(4, 1))
	for range 200000 {
		isPrinted(anyNumber(chance))
	}
}

func TestP4_1LeadKnown(t *testing.T) {
	for _, c := range leads {
		if got := dec.Lead(c.text); got != c.want {
			t.Errorf("Lead(%q): %d, not %d", c.text, got, c.want)
		}
	}
}

// As many bytes as may be, however great the number is.
func TestP4_1LeadLong(t *testing.T) {
	digits := strings.Repeat("1234567890", 100000)
	zeros := strings.Repeat("0", 1000000)
	for text, want := range map[string]int{
		digits:               1000000,
		"-" + digits:         1000001,
		digits + "a" + "1":   1000000,
		digits + "-" + "1":   1000000,
		"-" + digits + " ":   1000001,
		"0" + digits:         1,
		"-0" + digits:        0,
		zeros:                1,
		"1" + zeros:          1000001,
		"-1" + zeros + ".":   1000002,
		"x" + digits:         0,
		"-" + zeros:          0,
		"-" + "-" + digits:   0,
		digits[:999999]:      999999,
		digits + zeros + "/": 2000000,
	} {
		if got := dec.Lead(text); got != want {
			t.Errorf("Lead(%.12q.., %d bytes): %d, not %d", text, len(text), got, want)
		}
	}
}

// A text that is cut out of a longer one: what stands behind it isn't looked at.
func TestP4_1LeadCut(t *testing.T) {
	text := "-1234567890"
	for end := range len(text) + 1 {
		want := end
		if end < 2 {
			want = 0
		}
		if got := dec.Lead(text[:end]); got != want {
			t.Errorf("Lead(%q): %d, not %d", text[:end], got, want)
		}
	}
}

func TestP4_2ReadKnown(t *testing.T) {
	for _, c := range texts {
		isRead(t, c.text, least, most, c.n)
		isRead(t, c.text, c.n, c.n, c.n)
		isRead(t, c.text, c.n, most, c.n)
		isRead(t, c.text, least, c.n, c.n)
	}
}

// Each bound may be reached, and not passed by one.
func TestP4_2ReadBounds(t *testing.T) {
	for _, c := range texts {
		if c.n < most {
			isOver(t, c.text, c.n+1, most)
			isOver(t, c.text, most, most)
			isRead(t, c.text, least, c.n+1, c.n)
		}
		if c.n > least {
			isOver(t, c.text, least, c.n-1)
			isOver(t, c.text, least, least)
			isRead(t, c.text, c.n-1, most, c.n)
		}
	}
	for n := int64(-40); n <= 40; n++ {
		for low := int64(-12); low <= 12; low++ {
			for high := int64(-12); high <= 12; high++ {
				asReference(t, strconv.FormatInt(n, 10), low, high)
			}
		}
	}
}

// Between bounds of which the least is above the most there is no number.
func TestP4_2ReadBoundsCrossed(t *testing.T) {
	for _, c := range texts {
		isOver(t, c.text, 1, 0)
		isOver(t, c.text, 1, -1)
		isOver(t, c.text, most, least)
		if c.n > least && c.n < most {
			isOver(t, c.text, c.n+1, c.n-1)
			isOver(t, c.text, c.n, c.n-1)
			isOver(t, c.text, c.n+1, c.n)
		}
	}
}

// Numbers beyond an int64 are over, without bounds and with them.
func TestP4_2ReadTooGreat(t *testing.T) {
	great := append([]string{
		strings.Repeat("9", 1000000),
		"-" + strings.Repeat("9", 1000000),
		"1" + strings.Repeat("0", 1000000),
		"-1" + strings.Repeat("0", 1000000),
		"1" + strings.Repeat("0", 64), // 0 modulo 2^64
		"-1" + strings.Repeat("0", 64),
	}, tooGreat...)
	for _, text := range great {
		isOver(t, text, least, most)
		isOver(t, text, 0, 0)
		isOver(t, text, 0, most)
		isOver(t, text, least, 0)
		isOver(t, text, most, most)
		isOver(t, text, least, least)
		isOver(t, text, most, least)
	}
}

// Where more than one would be told, it is ErrDec.
func TestP4_2ReadNoNumber(t *testing.T) {
	for _, c := range leads {
		if c.want == 0 || c.want < len(c.text) {
			isNoNumber(t, c.text, c.want)
		}
	}
	for _, c := range texts {
		isNoNumber(t, c.text+" ", len(c.text))
		isNoNumber(t, c.text+"-", len(c.text))
		isNoNumber(t, c.text+"\x00", len(c.text))
		isNoNumber(t, " "+c.text, 0)
		isNoNumber(t, "+"+c.text, 0)
		isNoNumber(t, "-0"+c.text, 0)
		if c.n < 0 {
			isNoNumber(t, "-"+c.text, 0)
			isNoNumber(t, "0"+c.text, 1)
			isNoNumber(t, "-0"+c.text[1:], 0)
		} else {
			isNoNumber(t, "0"+c.text, 1)
		}
	}
	for _, text := range tooGreat {
		isNoNumber(t, text+"a", len(text))
		isNoNumber(t, text+"-1", len(text))
		isNoNumber(t, "0"+text, 1)
		isNoNumber(t, "-0"+text, 0)
	}
	long := strings.Repeat("1", 1000000)
	isNoNumber(t, long+"x", len(long))
	isNoNumber(t, "-"+long+"\n", len(long)+1)
	isNoNumber(t, "0"+long, 1)
}

// The examples of the document.
func TestP4_2ReadExamples(t *testing.T) {
	isNoNumber(t, "007", 1)
	isNoNumber(t, "-0", 0)
	isNoNumber(t, "-", 0)
	isOver(t, "9223372036854775808", least, most)
}

// Every byte, put in the place of each of a text's, ahead of it and behind it.
func TestP4_2EachByteAtEachPlace(t *testing.T) {
	for _, text := range []string{"0", "5", "10", "-3", "407", "-980", "-9223372036854775808", "9223372036854775807"} {
		for i := range len(text) + 1 {
			for c := range 256 {
				b := string([]byte{byte(c)})
				asReference(t, text[:i]+b+text[i:], least, most)
				if i < len(text) {
					asReference(t, text[:i]+b+text[i+1:], least, most)
				}
			}
		}
	}
}

// All texts of at most two bytes, and all of at most five signs of a few.
func TestP4_2Short(t *testing.T) {
	for i := range 256 {
		asReference(t, string([]byte{byte(i)}), -5, 5)
		for j := range 256 {
			asReference(t, string([]byte{byte(i), byte(j)}), -5, 50)
		}
	}
	all := []string{""}
	for range 5 {
		var longer []string
		for _, s := range all {
			for _, sign := range []string{"-", "0", "1", "9", "a"} {
				longer = append(longer, s+sign)
			}
		}
		for _, s := range longer {
			asReference(t, s, -1000, 9999)
		}
		all = longer
	}
}

// Texts put together without a rule, between bounds likewise.
func TestP4_2AsReference(t *testing.T) {
	chance := rand.New(rand.NewPCG(4, 2))
	pieces := []string{"-", "0", "00", "1", "9", "a", ".", "92233720368547758", "07", "08", "18446744073709551616", "\xff"}
	for range 50000 {
		s := ""
		for range chance.IntN(5) {
			s += pieces[chance.IntN(len(pieces))]
		}
		asReference(t, s, least, most)
		asReference(t, s, anyNumber(chance), anyNumber(chance))
	}
	for range 50000 {
		n := new(big.Int).Mul(big.NewInt(anyNumber(chance)), big.NewInt(chance.Int64N(12)))
		asReference(t, n.String(), least, most)
		asReference(t, n.String(), anyNumber(chance), anyNumber(chance))
	}
}

// All numbers about the ends of an int64 are taken, or are over.
func TestP4_2AboutTheEnds(t *testing.T) {
	for _, end := range []int64{least, most, 0} {
		for by := int64(-1200); by <= 1200; by++ {
			n := new(big.Int).Add(big.NewInt(end), big.NewInt(by))
			asReference(t, n.String(), least, most)
			asReference(t, n.String(), least, end)
			asReference(t, n.String(), end, most)
		}
	}
}

// Each fault is a value of its own: who changes one changes no other.
func TestP4_2FaultsApart(t *testing.T) {
	var first, second *api.At
	_, one := dec.Read("12a", least, most)
	_, two := dec.Read("12a", least, most)
	if !errors.As(one, &first) || !errors.As(two, &second) {
		t.Fatal("Read: no place")
	}
	first.Pos = 7
	if second.Pos != 2 {
		t.Error("two faults are one")
	}
	isNoNumber(t, "12a", 2)
}

func TestP4_3ReadOfPrint(t *testing.T) {
	isOne := func(n int64) {
		text := dec.Print(n)
		isRead(t, text, least, most, n)
		isRead(t, text, n, n, n)
		if dec.Lead(text) != len(text) {
			t.Errorf("Lead(%q): %d", text, dec.Lead(text))
		}
	}
	for n := int64(-20000); n <= 20000; n++ {
		isOne(n)
		isOne(least + 20000 + n)
		isOne(most - 20000 + n)
	}
	chance := rand.New(rand.NewPCG(4, 3))
	for range 100000 {
		isOne(anyNumber(chance))
	}
}

// What is read is the one text of its number.
func TestP4_3PrintOfRead(t *testing.T) {
	taken := 0
	isOne := func(s string) {
		n, err := dec.Read(s, least, most)
		if err != nil {
			return
		}
		if got := dec.Print(n); got != s {
			t.Errorf("Print(Read(%q)): %q", s, got)
		}
		taken++
	}
	signs := []string{"-", "+", " ", "0", "1", "2", "9", "e", ".", "_"}
	all := []string{""}
	for range 4 {
		var longer []string
		for _, s := range all {
			for _, sign := range signs {
				longer = append(longer, s+sign)
			}
		}
		for _, s := range longer {
			isOne(s)
		}
		all = longer
	}
	for _, c := range leads {
		isOne(c.text)
	}
	if taken < 200 {
		t.Errorf("only %d texts were taken", taken)
	}
}
