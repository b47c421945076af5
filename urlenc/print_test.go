package urlenc_test

import (
	"math/rand/v2"
	"net/url"
	"slices"
	"strings"
	"testing"

	"warrant/api"
	"warrant/urlenc"
)

func TestP6_3PrintKnown(t *testing.T) {
	isPrinted(t, nil, "")
	isPrinted(t, []api.Param{}, "")
	isPrinted(t, params("x", "a b&"), "x=a+b%26")
	isPrinted(t, params("a", ""), "a=")
	isPrinted(t, params("a", "", "b", ""), "a=&b=")
	isPrinted(t, params("b", "1", "a", "2", "B", "3"), "b=1&a=2&B=3")
	isPrinted(t, params("a", "1 2", "b", "\u00e9", "c", ""), "a=1+2&b=%C3%A9&c=")
	isPrinted(t, params("=", "=", "&", "&", "+", "+", "%", "%", " ", " "), "%3D=%3D&%26=%26&%2B=%2B&%25=%25&+=+")
	isPrinted(t, params("*-._", "~"), "*-._=%7E")
	isPrinted(t, params("\x00", "\x7f\n"), "%00=%7F%0A")
	isPrinted(t, params("\u20ac", "\U0001f600"), "%E2%82%AC=%F0%9F%98%80")
	isPrinted(t, params("a", "same", "b", "same"), "a=same&b=same")
	isPrinted(t, params("a", "b", "b", "a", "ab", ""), "a=b&b=a&ab=")
}

func TestP6_3PrintNoName(t *testing.T) {
	isNotPrinted(t, params("", ""), api.ErrArg)
	isNotPrinted(t, params("", "a"), api.ErrArg)
	isNotPrinted(t, params("a", "1", "", "2", "b", "3"), api.ErrArg)
	isNotPrinted(t, params("a", "1", "b", "3", "", ""), api.ErrArg)
	isNotPrinted(t, make([]api.Param, 1), api.ErrArg)
}

func TestP6_3PrintTwice(t *testing.T) {
	isNotPrinted(t, params("a", "1", "a", "2"), api.ErrArg)
	isNotPrinted(t, params("a", "1", "a", "1"), api.ErrArg)
	isNotPrinted(t, params("a", "", "b", "", "a", ""), api.ErrArg)
	isNotPrinted(t, params("c", "", "a", "", "b", "", "b", ""), api.ErrArg)
	for i := range 32 {
		for j := range i {
			l := numbered(32)
			l[i].Name = l[j].Name
			isNotPrinted(t, l, api.ErrArg)
		}
	}
	// Names are held against one another as they are, not as texts.
	isPrinted(t, params("a", "", "%61", ""), "a=&%2561=")
	isPrinted(t, params("a", "", "A", "", " ", "", "+", ""), "a=&A=&+=&%2B=")
}

func TestP6_3PrintNotUtf(t *testing.T) {
	for _, none := range []string{"\xff", "\x80", "\xc3", "\xc0\x80", "\xe2\x82", "\xed\xa0\x80", "\xf4\x90\x80\x80", "a\xa9", "\u20ac\xe2\x82"} {
		isNotPrinted(t, params(none, ""), api.ErrArg)
		isNotPrinted(t, params("a", none), api.ErrArg)
		isNotPrinted(t, params("a", "", none, "1"), api.ErrArg)
		isNotPrinted(t, params("a", none, "b", "1"), api.ErrArg)
	}
	isNotPrinted(t, params("\xc3", "\xa9"), api.ErrArg)
}

func TestP6_3PrintMany(t *testing.T) {
	isPrinted(t, numbered(31), strings.ReplaceAll(names(numbered(31)), "&", "=&")+"=")
	isPrinted(t, numbered(32), strings.ReplaceAll(names(numbered(32)), "&", "=&")+"=")
	isNotPrinted(t, numbered(33), api.ErrArg)
	isNotPrinted(t, numbered(100000), api.ErrArg)
	isNotPrinted(t, make([]api.Param, 33), api.ErrArg)
}

// The text's bytes count, with all its signs.
func TestP6_3PrintLong(t *testing.T) {
	for _, c := range []struct {
		l    []api.Param
		size int
	}{
		{params("a", strings.Repeat("x", 4094)), 4096},
		{params("a", strings.Repeat("x", 4095)), 4097},
		{params(strings.Repeat("x", 4095), ""), 4096},
		{params(strings.Repeat("x", 4096), ""), 4097},
		{params("ab", strings.Repeat("%", 1364), "c", "1"), 4099},
		{params("a", strings.Repeat("%", 1364)), 4094},
		{params("abc", strings.Repeat("%", 1364)), 4096},
		{params("abcd", strings.Repeat("%", 1364)), 4097},
		{params(strings.Repeat("\u20ac", 455), ""), 4096},
		{params(strings.Repeat("\u20ac", 455), "1"), 4097},
		{params("a", strings.Repeat(" ", 4094)), 4096},
		{params("a", strings.Repeat(" ", 4095)), 4097},
		{params("a", strings.Repeat("x", 2000), "b", strings.Repeat("y", 2091)), 4096},
		{params("a", strings.Repeat("x", 2000), "b", strings.Repeat("y", 2092)), 4097},
		{params("a", strings.Repeat("x", 4091), "b", ""), 4096},
		{params("a", strings.Repeat("x", 4092), "b", ""), 4097},
		{params("a", strings.Repeat("\x00", 1<<20)), 2 + 3<<20},
	} {
		if c.size > 4096 {
			isNotPrinted(t, c.l, api.ErrLong)
			continue
		}
		var parts []string
		for _, p := range c.l {
			parts = append(parts, refEscape(p.Name)+"="+refEscape(p.Val))
		}
		text := strings.Join(parts, "&")
		isPrinted(t, c.l, text)
		if len(text) != c.size {
			t.Errorf("the text of a test has %d bytes, not %d", len(text), c.size)
		}
	}
}

// What can't be printed is told ahead of what is too long.
func TestP6_3PrintOrder(t *testing.T) {
	long := strings.Repeat("x", 5000)
	isNotPrinted(t, params("a", long), api.ErrLong)
	isNotPrinted(t, params("a", long, "", ""), api.ErrArg)
	isNotPrinted(t, params("a", long, "a", ""), api.ErrArg)
	isNotPrinted(t, params("a", long, "b", "\xff"), api.ErrArg)
	isNotPrinted(t, params("a", long, "\xff", ""), api.ErrArg)
	isNotPrinted(t, params("", long), api.ErrArg)
	isNotPrinted(t, params("a", long+"\xff"), api.ErrArg)
	isNotPrinted(t, append(params("a", long), numbered(32)...), api.ErrArg)
	isNotPrinted(t, params(long, "", long, ""), api.ErrArg)
}

func TestP6_3Get(t *testing.T) {
	l := params("b", "1", "a", "2", "b", "3", "c", "", "", "empty", "\xff", "\xfe", "A", "4")
	for name, want := range map[string]string{"b": "1", "a": "2", "c": "", "": "empty", "\xff": "\xfe", "A": "4"} {
		if val, there := urlenc.Get(l, name); !there || val != want {
			t.Errorf("Get(%q): %q, %t, not %q", name, val, there, want)
		}
	}
	for _, name := range []string{"B", "d", "aa", " a", "%61", "\xfe", "1", "=", "b=1"} {
		if val, there := urlenc.Get(l, name); there || val != "" {
			t.Errorf("Get(%q): %q, %t", name, val, there)
		}
	}
	for _, none := range [][]api.Param{nil, {}, l[:0], params("a", "1")} {
		for _, name := range []string{"", "b"} {
			if val, there := urlenc.Get(none, name); there || val != "" {
				t.Errorf("Get(%q, %q): %q, %t", none, name, val, there)
			}
		}
	}
	if val, there := urlenc.Get(params("a", "1"), "a"); !there || val != "1" {
		t.Errorf("Get of one: %q, %t", val, there)
	}
}

func TestP6_3ArgumentsStay(t *testing.T) {
	room := params("b", "1 2", "a", "\u20ac", "c", "", "b", "4", "", "5", "\xff", "6")
	kept := slices.Clone(room)
	for i := range room {
		for j := i; j <= len(room); j++ {
			urlenc.Print(room[i:j])
			urlenc.Get(room[i:j], "c")
		}
	}
	if !slices.Equal(room, kept) {
		t.Error("an argument was changed")
	}
}

func TestP6_4ParseOfPrint(t *testing.T) {
	chance := rand.New(rand.NewPCG(6, 4))
	printed := 0
	for range 20000 {
		l := anyParams(chance, 50)
		s, err := urlenc.Print(l)
		if len(l) > 32 {
			isNotPrinted(t, l, api.ErrArg)
			continue
		}
		if err != nil {
			t.Errorf("Print(%q): %v", l, err)
			continue
		}
		printed++
		isParsed(t, s, l)
		for _, p := range l {
			if val, there := urlenc.Get(l, p.Name); !there || val != p.Val {
				t.Errorf("Get(%q, %q): %q, %t", l, p.Name, val, there)
			}
		}
	}
	if printed < 10000 {
		t.Errorf("only %d lists were printed", printed)
	}
	for _, l := range [][]api.Param{nil, numbered(32), params("a", strings.Repeat("x", 4094)), params(strings.Repeat("\u20ac", 455), "")} {
		s, err := urlenc.Print(l)
		if err != nil {
			t.Errorf("Print(%.80q): %v", l, err)
		}
		isParsed(t, s, l)
	}
}

// However parameters are written, they are read.
func TestP6_4HoweverWritten(t *testing.T) {
	chance := rand.New(rand.NewPCG(6, 41))
	for range 10000 {
		l := anyParams(chance, 32)
		if s := anyText(chance, l); len(s) <= api.MaxBody {
			isParsed(t, s, l)
		}
	}
}

// The text of what was read may be longer than another that is taken: then
// there is no Print of it.
func TestP6_4LongerThanRead(t *testing.T) {
	for _, c := range []struct {
		s   string
		err api.Errno
	}{
		{"ab=" + strings.Repeat("~", 1364) + "&", 0},
		{"abcd=" + strings.Repeat("~", 1364), api.ErrLong},
		{"a=" + strings.Repeat("~", 4094), api.ErrLong},
		{strings.Repeat("x", 4095), 0},
		{strings.Repeat("x", 4096), api.ErrLong},
	} {
		l, err := urlenc.Parse(c.s)
		if err != nil {
			t.Fatalf("Parse(%.80q): %v", c.s, err)
		}
		if c.err != 0 {
			isNotPrinted(t, l, c.err)
			continue
		}
		again, err := urlenc.Print(l)
		if err != nil {
			t.Errorf("Print(%.80q): %v", l, err)
		}
		isParsed(t, again, l)
	}
}

func TestP6_4UnescapeOfEscape(t *testing.T) {
	for n := range 1 << 16 {
		for _, s := range []string{string([]byte{byte(n >> 8), byte(n)}), string([]byte{byte(n)}), "%" + string([]byte{byte(n >> 8), byte(n)})} {
			isMeant(t, urlenc.Escape(s), s)
		}
	}
	isMeant(t, urlenc.Escape(""), "")
	chance := rand.New(rand.NewPCG(6, 42))
	for range 3000 {
		b := make([]byte, chance.IntN(300))
		for i := range b {
			b[i] = byte(chance.IntN(256))
		}
		isMeant(t, urlenc.Escape(string(b)), string(b))
	}
	long := strings.Repeat("a %+&=\xff\u20ac", 100000)
	isMeant(t, urlenc.Escape(long), long)
}

// What is printed is read likewise by the library's own means, and what they
// print is read.
func TestP6_4AsTheLibrary(t *testing.T) {
	chance := rand.New(rand.NewPCG(6, 43))
	for range 20000 {
		l := anyParams(chance, 8)
		want := url.Values{}
		for _, p := range l {
			want.Set(p.Name, p.Val)
		}
		s, err := urlenc.Print(l)
		got, wrong := url.ParseQuery(s)
		if err != nil || wrong != nil || len(got) != len(l) || got.Encode() != want.Encode() {
			t.Fatalf("%q is %q, %v, %v, not %q", s, got, err, wrong, want)
		}
		read, err := urlenc.Parse(want.Encode())
		if err != nil || len(read) != len(l) {
			t.Fatalf("Parse(%q): %q, %v", want.Encode(), read, err)
		}
		for _, p := range read {
			if want.Get(p.Name) != p.Val || !want.Has(p.Name) {
				t.Fatalf("Parse(%q): %q", want.Encode(), read)
			}
		}
		text := anyText(chance, l)
		meant, err := urlenc.Unescape(text)
		if other, wrong := url.QueryUnescape(text); err != nil || wrong != nil || meant != other {
			t.Fatalf("Unescape(%q): %q, %v, not %q, %v", text, meant, err, other, wrong)
		}
	}
}
