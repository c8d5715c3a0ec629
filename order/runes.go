package order

import "strings"

const (
	wideZero = 0xFF10          // the fullwidth 0; the other digits stand behind it, in their order
	braille  = 0x2800          // the rune of the byte 0; those of the other bytes stand behind it
	none     = "-"             // the runes of no bytes
	lowest   = uint64(1 << 63) // how far below 0 the numbers go; above it they end one ahead of that
)

// Number answers the number whose runes s is, and true; 0 and false, if there is none.
func Number(s string) (int, bool) {
	digits, below := strings.CutPrefix(s, "-")
	far, ok := distance(digits)
	switch {
	case !ok, below && far == 0, !below && far == lowest:
		return 0, false
	case below:
		return int(-far), true
	}
	return int(far), true
}

// distance answers how far from 0 the number of these digits is; false: they aren't a number's, or it is more than lowest.
func distance(digits string) (uint64, bool) {
	far := uint64(0)
	for at, r := range digits {
		d, ok := digit(r)
		if !ok || at > 0 && far == 0 || far > (lowest-d)/10 {
			return 0, false
		}
		far = 10*far + d
	}
	return far, digits != ""
}

// digit answers the digit of either kind that r is.
func digit(r rune) (uint64, bool) {
	switch {
	case '0' <= r && r <= '9':
		return uint64(r - '0'), true
	case wideZero <= r && r <= wideZero+9:
		return uint64(r - wideZero), true
	}
	return 0, false
}

// Bytes answers the bytes whose runes s is, and true; nothing and false, if there are none.
func Bytes(s string) (string, bool) {
	if s == none {
		return "", true
	}
	var b strings.Builder
	// Bytes that are no UTF-8 come as U+FFFD, which is no byte's rune.
	for _, r := range s {
		if r < braille || r > braille+0xFF {
			return "", false
		}
		b.WriteByte(byte(r - braille))
	}
	return b.String(), s != ""
}

// byteRunes answers the runes of bytes.
func byteRunes(bytes string) string {
	if bytes == "" {
		return none
	}
	var b strings.Builder
	for i := range len(bytes) {
		b.WriteRune(braille + rune(bytes[i]))
	}
	return b.String()
}
