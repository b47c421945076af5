package utf

// noLetter is told where no letter's bytes are.
const noLetter = -1

// Letters end below endLetters, those of one, two and three bytes below the
// ends of theirs; from gapStart on, up to gapEnd, there are none.
const (
	endOne     = 0x80
	endTwo     = 0x800
	gapStart   = 0xd800
	gapEnd     = 0xe000
	endThree   = 0x10000
	endLetters = 0x110000
)

// maxSize is how many bytes a letter may have.
const maxSize = 4

// A byte behind the first begins with the bits of tailMark, and has tailBits
// of the letter's.
const (
	tailMark = 0x80
	tailBits = 6
	tailMask = 1<<tailBits - 1
)

// firstMarks are the bits with which the first byte begins, each at the place
// of how many bytes its letter has.
var firstMarks = [maxSize + 1]int{0, 0, 0xc0, 0xe0, 0xf0}

// sizeOf tells how many bytes a letter has: 0, if it is none.
func sizeOf(letter int) int {
	switch {
	case letter < 0, letter >= endLetters, gapStart <= letter && letter < gapEnd:
		return 0
	case letter < endOne:
		return 1
	case letter < endTwo:
		return 2
	case letter < endThree:
		return 3
	}
	return 4
}

// spell tells a letter's bytes, as many as sizeOf tells, with 0 behind them.
func spell(letter int) [maxSize]byte {
	var b [maxSize]byte
	switch size := sizeOf(letter); size {
	case 4:
		b[3] = tail(letter)
		letter >>= tailBits
		fallthrough
	case 3:
		b[2] = tail(letter)
		letter >>= tailBits
		fallthrough
	case 2:
		b[1] = tail(letter)
		letter >>= tailBits
		fallthrough
	case 1:
		b[0] = byte(firstMarks[size] | letter)
	}
	return b
}

// tail tells a byte behind the first: that of the letter's lowest bits.
func tail(letter int) byte { return byte(tailMark | letter&tailMask) }

// wanted tells how many bytes more a letter must have whose first byte is c.
func wanted(c byte) int {
	more := 0
	switch first := int(c); {
	case first >= firstMarks[4]:
		more++
		fallthrough
	case first >= firstMarks[3]:
		more++
		fallthrough
	case first >= firstMarks[2]:
		more++
	}
	return more
}

// begin tells the letter whose bytes s begins with, and how many they are.
func begin(s string) (letter, size int) {
	if s == "" {
		return noLetter, 0
	}
	size = 1 + wanted(s[0])
	if len(s) < size {
		return noLetter, 1
	}
	letter = int(s[0]) - firstMarks[size]
	for i := 1; i < size; i++ {
		letter = letter<<tailBits | int(s[i])&tailMask
	}
	// The marks weren't looked at, nor whether fewer bytes would do: a letter's
	// bytes are those by which it is spelled, and no others.
	if Put(letter) != s[:size] {
		return noLetter, 1
	}
	return letter, size
}
