package urlenc

import "strings"

// A byte that doesn't stand for itself is told by a byteSign and two digits, a
// blank by a blankSign.
const (
	byteSign  = '%'
	blankSign = '+'
	byteSize  = 3 // bytes of a byteSign and its digits
)

// digits are those of base 16 that are written, each at the place of its worth.
const digits = "0123456789ABCDEF"

// noDigit is the worth of a byte that is no digit.
const noDigit = -1

// spell tells the text of a byte.
func spell(c byte) string {
	switch {
	case 'A' <= c && c <= 'Z':
		fallthrough
	case 'a' <= c && c <= 'z':
		fallthrough
	case '0' <= c && c <= '9':
		fallthrough
	case c == '*', c == '-', c == '.', c == '_':
		return string([]byte{c})
	case c == ' ':
		return string([]byte{blankSign})
	}
	return string([]byte{byteSign, digits[c>>4], digits[c&15]})
}

// worth tells what a digit of base 16 is worth, or noDigit. Those that are read
// may be small letters, too.
func worth(c byte) int {
	if 'a' <= c && c <= 'f' {
		c -= 'a' - 'A'
	}
	return strings.IndexByte(digits, c)
}

// isSpelled tells whether s begins with a byteSign and its digits.
func isSpelled(s string) bool {
	return len(s) >= byteSize && s[0] == byteSign && worth(s[1]) != noDigit && worth(s[2]) != noDigit
}

// looseByteSign tells the place of the first byteSign of s without its digits,
// or the end of s, if each has them.
func looseByteSign(s string) int {
	for i := range len(s) {
		if s[i] == byteSign && !isSpelled(s[i:]) {
			return i
		}
	}
	return len(s)
}

// meaning tells what s stands for; each byteSign in it has its digits.
func meaning(s string) string {
	var text strings.Builder
	for i := 0; i < len(s); i++ {
		switch c := s[i]; c {
		case byteSign:
			text.WriteByte(byte(worth(s[i+1])<<4 | worth(s[i+2])))
			i += byteSize - 1
		case blankSign:
			text.WriteByte(' ')
		default:
			text.WriteByte(c)
		}
	}
	return text.String()
}
