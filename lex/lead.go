package lex

import (
	"strings"

	"warrant/api"
	"warrant/dec"
	"warrant/utf"
)

// What stands between tokens are blanks, and remarks, from a remarkSign up to
// the next lineEnd.
const (
	blanks     = "\t\n\r "
	remarkSign = '#'
	lineEnd    = "\n"
)

// A text stands between two quoteSigns; its letters are from leastQuoted on.
const (
	quoteSign   = '"'
	escapeSign  = '\\'
	leastQuoted = ' '
)

// shortSigns are the signs of one byte.
const shortSigns = "()[],;=<>"

// kindOf tells the kind of the token that s begins with, by as little of it as
// tells it from the others: 0, if no token begins so.
func kindOf(s string) int {
	switch {
	case s == "":
		return api.TEnd
	case leadWord(s) > 0:
		return api.TWord
	case s[0] == quoteSign:
		return api.TText
	case dec.Lead(s) > 0:
		return api.TInt
	case leadSign(s) > 0:
		return api.TSign
	}
	return 0
}

// leadGap tells how many bytes at the beginning of s are blanks and remarks.
func leadGap(s string) int {
	size := 0
	for size < len(s) {
		switch c := s[size]; {
		case strings.IndexByte(blanks, c) >= 0:
			size++
		case c == remarkSign:
			remark, _, _ := strings.Cut(s[size:], lineEnd)
			size += len(remark)
		default:
			return size
		}
	}
	return size
}

// leadWord tells how many bytes at the beginning of s are those of words.
func leadWord(s string) int {
	for i := range len(s) {
		if c := s[i]; c != '_' && (c < 'a' || c > 'z') {
			return i
		}
	}
	return len(s)
}

// leadSign tells how many bytes at the beginning of s are a sign, as many as may
// be: 0, if none are.
func leadSign(s string) int {
	size := 0
	switch first := s[:min(len(s), 2)]; {
	case first == "!=", first == "<=", first == ">=":
		size++
		fallthrough
	case first != "" && strings.IndexByte(shortSigns, first[0]) >= 0:
		size++
	}
	return size
}

// leadPlain tells how many bytes at the beginning of s are letters that stand for
// themselves within quotes.
func leadPlain(s string) int {
	size := 0
	for place, letter := range utf.All(s) {
		if letter < leastQuoted || mustBeEscaped(letter) {
			break
		}
		size = place + len(utf.Put(letter))
	}
	return size
}

// isWord tells whether s is a word.
func isWord(s string) bool {
	return s != "" && len(s) <= api.MaxName && leadWord(s) == len(s)
}

// isSign tells whether s is a sign.
func isSign(s string) bool { return s != "" && leadSign(s) == len(s) }

// mustBeEscaped tells whether a letter stands within quotes behind an escapeSign
// alone.
func mustBeEscaped(letter int) bool { return letter == quoteSign || letter == escapeSign }
