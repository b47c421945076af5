package b64

// Three bytes are the bits of four signs: a group.
const (
	byteBits   = 8
	signBits   = 6
	groupBytes = 3
	groupSigns = 4
)

// signs are all that there are, each at the place of its worth.
const signs = "ABCDEFGHIJKLMNOPQRSTUVWXYZabcdefghijklmnopqrstuvwxyz0123456789-_"

// noSign is the worth of a byte that is no sign.
const noSign = len(signs)

// worth tells what a sign is worth, or noSign.
func worth(c byte) int {
	switch {
	case 'A' <= c && c <= 'Z':
		return int(c - 'A')
	case 'a' <= c && c <= 'z':
		return int(c-'a') + 26
	case '0' <= c && c <= '9':
		return int(c-'0') + 52
	case c == '-':
		return 62
	case c == '_':
		return 63
	}
	return noSign
}

// signsFor tells how many signs a group of n bytes has.
func signsFor(n int) int { return (n*byteBits + signBits - 1) / signBits }

// loose tells the bits of the last of n signs that lie behind the last whole
// byte.
func loose(n int) int { return 1<<(n*signBits%byteBits) - 1 }

// joinBytes tells the bits of at most three bytes, the first one's highest,
// with 0 for those that aren't there.
func joinBytes(b []byte) uint32 {
	var w uint32
	switch len(b) {
	case 3: // four signs
		w = uint32(b[2])
		fallthrough
	case 2: // three signs
		w |= uint32(b[1]) << 8
		fallthrough
	case 1: // two signs
		w |= uint32(b[0]) << 16
	}
	return w
}

// spell tells the four signs of a group's bits.
func spell(w uint32) [groupSigns]byte {
	return [groupSigns]byte{signs[w>>18&63], signs[w>>12&63], signs[w>>6&63], signs[w&63]}
}

// joinSigns tells the bits of at most four signs, the first one's highest,
// with 0 for those that aren't there.
func joinSigns(s string) uint32 {
	var w uint32
	for i := range groupSigns {
		w <<= signBits
		if i < len(s) {
			w |= uint32(worth(s[i]))
		}
	}
	return w
}

// lastBytes tells the bytes of the signs that are left behind the whole
// groups: three signs, two, or none.
func lastBytes(s string) []byte {
	var b [groupBytes]byte
	switch w := joinSigns(s); len(s) {
	case 3:
		b[1] = byte(w >> 8)
		fallthrough
	case 2:
		b[0] = byte(w >> 16)
	}
	return b[:len(s)*signBits/byteBits]
}
