package json

import (
	"errors"
	"strings"

	"warrant/api"
	"warrant/utf"
)

// A letter's number is told by codeSign and codeDigits digits of base 16, one
// from pairedFrom on by two such: the number of the first is from highFrom to
// below lowFrom, that of the second from lowFrom to below lowEnd, and each has
// halfBits of its bits.
const (
	codeSign   = `\u`
	codeDigits = 4
	codeBase   = 16
	highFrom   = 0xd800
	lowFrom    = 0xdc00
	lowEnd     = 0xe000
	halfBits   = 10
	pairedFrom = 0x10000
)

// hexDigits are those of base 16 that are written.
const hexDigits = "0123456789abcdef"

// noDigit is the worth of a byte that is no digit of base 16.
const noDigit = -1

// quoted reads a text within quotes.
func (r *reader) quoted() string {
	var text strings.Builder
	r.sign('"')
	text.WriteString(r.plain())
	for r.ahead() == '\\' {
		text.WriteString(r.escaped())
		text.WriteString(r.plain())
	}
	r.sign('"')
	return text.String()
}

// plain reads as many letters as stand for themselves.
func (r *reader) plain() string {
	first := r.at
	for standsForItself(r.ahead()) {
		r.at++
	}
	text := r.text[first:r.at]
	var wrong *api.At
	if errors.As(utf.Check([]byte(text)), &wrong) {
		giveUp(first+wrong.Pos, api.ErrJson)
	}
	return text
}

// standsForItself tells whether a byte may stand within quotes as it is.
func standsForItself(c byte) bool { return c >= ' ' && c != '"' && c != '\\' }

// escaped reads a \, which is ahead, and what stands behind it, and tells the
// letter that they stand for.
func (r *reader) escaped() string {
	place := r.at
	r.at++
	c := r.ahead()
	if c == 'u' {
		r.at++
		return r.coded(place)
	}
	letter := short(c)
	if letter == "" {
		giveUp(r.at, api.ErrJson)
	}
	r.at++
	return letter
}

// short tells the letter that a byte stands for behind a \, or "".
func short(c byte) string {
	switch c {
	case '"':
		fallthrough
	case '\\':
		fallthrough
	case '/':
		return string(rune(c))
	case 'b':
		return "\b"
	case 'f':
		return "\f"
	case 'n':
		return "\n"
	case 'r':
		return "\r"
	case 't':
		return "\t"
	}
	return ""
}

// coded reads what stands behind a codeSign at place, and tells the letter.
func (r *reader) coded(place int) string {
	n, size := leadCode(r.text[r.at:])
	r.at += size
	if size < codeDigits {
		giveUp(r.at, api.ErrJson)
	}
	switch {
	case lowFrom <= n && n < lowEnd:
		giveUp(place, api.ErrJson)
	case highFrom <= n && n < lowFrom:
		n = pairedFrom + (n-highFrom)<<halfBits + r.lowHalf(place)
	}
	return utf.Put(n)
}

// lowHalf reads the second code of a letter whose first is at place, and tells
// its bits.
func (r *reader) lowHalf(place int) int {
	rest, found := strings.CutPrefix(r.text[r.at:], codeSign)
	n, _ := leadCode(rest) // of fewer digits it is below lowFrom
	if !found || n < lowFrom || n >= lowEnd {
		giveUp(place, api.ErrJson)
	}
	r.at += len(codeSign) + codeDigits
	return n - lowFrom
}

// leadCode tells the number of the digits that s begins with, of at most
// codeDigits, and how many they are.
func leadCode(s string) (n, size int) {
	for size < min(codeDigits, len(s)) && hexWorth(s[size]) != noDigit {
		n = n*codeBase + hexWorth(s[size])
		size++
	}
	return n, size
}

// hexWorth tells the worth of a digit of base 16, or noDigit.
func hexWorth(c byte) int {
	switch {
	case '0' <= c && c <= '9':
		return int(c - '0')
	case 'a' <= c && c <= 'f':
		return int(c-'a') + 10
	case 'A' <= c && c <= 'F':
		return int(c-'A') + 10
	}
	return noDigit
}
