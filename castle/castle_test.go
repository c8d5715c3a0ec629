package castle_test

import (
	"hash/crc32"
	"math/rand"
	"strings"
	"testing"

	"tierce/castle"
)

// texts answers bytes of many lengths, of all values.
func texts() []string {
	chance := rand.New(rand.NewSource(2))
	list := []string{"", "\x00", "\xff", "\x00\x00\x00\x00", "\xff\xff\xff\xff", strings.Repeat("\x00", 252)}
	for n := 1; n < 300; n += 1 + n/8 {
		b := make([]byte, n)
		chance.Read(b)
		list = append(list, string(b))
	}
	return list
}

// bitByBit is the sum as the chapter's words have it.
func bitByBit(s string) uint32 {
	sum := uint32(0xFFFFFFFF)
	for i := 0; i < len(s); i++ {
		sum ^= uint32(s[i])
		for range 8 {
			if sum&1 == 1 {
				sum = sum>>1 ^ 0x82F63B78
			} else {
				sum >>= 1
			}
		}
	}
	return ^sum
}

// opens fails the test, unless s opens to want.
func opens(t *testing.T, s, want string) {
	t.Helper()
	if got, ok := castle.Open(s); got != want || !ok {
		t.Errorf("Open(%q) = %q, %v; want %q, true", s, got, ok, want)
	}
}

// staysShut fails the test, if s opens, or anything is told beside the false.
func staysShut(t *testing.T, s string) {
	t.Helper()
	if got, ok := castle.Open(s); got != "" || ok {
		t.Errorf("Open(%q) = %q, %v; want nothing, false", s, got, ok)
	}
}

// P2.1: Sum.

func TestSumsThatAreKnown(t *testing.T) {
	var up, down strings.Builder
	for i := range 32 {
		up.WriteByte(byte(i))
		down.WriteByte(byte(31 - i))
	}
	for _, c := range []struct {
		s    string
		want uint32
	}{
		{"", 0},
		{"a", 0xC1D04330},
		{"123456789", 0xE3069283},
		{strings.Repeat("\x00", 32), 0x8A9136AA},
		{strings.Repeat("\xff", 32), 0x62A8AB43},
		{up.String(), 0x46DD794E},
		{down.String(), 0x113FDB5C},
	} {
		if got := castle.Sum(c.s); got != c.want {
			t.Errorf("Sum(%q) = %08X; want %08X", c.s, got, c.want)
		}
	}
}

func TestSumOfEachByte(t *testing.T) {
	for b := range 256 {
		for _, s := range []string{string([]byte{byte(b)}), string([]byte{byte(b), 'x', byte(255 - b)})} {
			if got, want := castle.Sum(s), bitByBit(s); got != want {
				t.Errorf("Sum(%q) = %08X; want %08X", s, got, want)
			}
		}
	}
}

func TestSumOfManyTexts(t *testing.T) {
	table := crc32.MakeTable(crc32.Castagnoli)
	for _, s := range texts() {
		got := castle.Sum(s)
		if want := bitByBit(s); got != want {
			t.Errorf("Sum(%q) = %08X; want %08X", s, got, want)
		}
		if want := crc32.Checksum([]byte(s), table); got != want {
			t.Errorf("Sum(%q) = %08X; another program's is %08X", s, got, want)
		}
	}
}

func TestSumKeepsNothingFromCallToCall(t *testing.T) {
	for _, s := range texts() {
		first := castle.Sum(s)
		castle.Sum("something else")
		if again := castle.Sum(s); again != first {
			t.Errorf("Sum(%q) = %08X, and then %08X", s, first, again)
		}
	}
}

// P2.1: Seal.

func TestSealPutsTheSumBehind(t *testing.T) {
	for _, c := range []struct{ s, want string }{
		{"", "\x00\x00\x00\x00"},
		{"123456789", "123456789\x83\x92\x06\xe3"},
		{"a", "a\x30\x43\xd0\xc1"},
	} {
		if got := castle.Seal(c.s); got != c.want {
			t.Errorf("Seal(%q) = %q; want %q", c.s, got, c.want)
		}
	}
}

func TestSealOfManyTexts(t *testing.T) {
	for _, s := range texts() {
		n := bitByBit(s)
		want := s + string([]byte{byte(n), byte(n >> 8), byte(n >> 16), byte(n >> 24)})
		if got := castle.Seal(s); got != want {
			t.Errorf("Seal(%q) = %q; want %q", s, got, want)
		}
	}
}

// P2.1: Open.

func TestOpenOfBytesWithTheirSum(t *testing.T) {
	opens(t, "\x00\x00\x00\x00", "")
	opens(t, "123456789\x83\x92\x06\xe3", "123456789")
	opens(t, "a\x30\x43\xd0\xc1", "a")
	opens(t, strings.Repeat("\xff", 32)+"\x43\xab\xa8\x62", strings.Repeat("\xff", 32))
}

func TestOpenOfTooFewBytes(t *testing.T) {
	for n := range 4 {
		staysShut(t, strings.Repeat("\x00", n))
		staysShut(t, strings.Repeat("\xff", n))
		staysShut(t, "abc"[:n])
	}
}

func TestOpenOfAnotherSum(t *testing.T) {
	staysShut(t, "\x00\x00\x00\x01")
	staysShut(t, "\x01\x00\x00\x00")
	staysShut(t, "\xff\xff\xff\xff")
	staysShut(t, "123456789")
	staysShut(t, "123456789\xe3\x06\x92\x83") // the highest byte first
	staysShut(t, "\x83\x92\x06\xe3123456789") // the sum ahead
	staysShut(t, "123456789\x83\x92\x06")
	staysShut(t, "123456789\x83\x92\x06\xe3\x00")
	staysShut(t, "023456789\x83\x92\x06\xe3")
	staysShut(t, strings.Repeat("\x00", 5)) // the sum of nothing behind a byte
	staysShut(t, strings.Repeat("\x00", 256))
	staysShut(t, strings.Repeat("\xff", 256))
}

// Bytes open just if they are what their first part is sealed to.
func TestOpenOfManyTexts(t *testing.T) {
	for _, s := range texts() {
		if len(s) >= 4 && castle.Seal(s[:len(s)-4]) == s {
			opens(t, s, s[:len(s)-4])
		} else {
			staysShut(t, s)
		}
	}
}

// P2.2.

func TestWhatWasSealedIsOpened(t *testing.T) {
	for _, s := range texts() {
		opens(t, castle.Seal(s), s)
		opens(t, castle.Seal(castle.Seal(s)), castle.Seal(s))
	}
}

// turned answers s with the bits of mask turned in the four bytes from at on.
func turned(s string, at int, mask uint32) string {
	b := []byte(s)
	for i := range 4 {
		b[at+i] ^= byte(mask >> (8 * i))
	}
	return string(b)
}

func TestTurnedBitsWithinFourBytes(t *testing.T) {
	chance := rand.New(rand.NewSource(22))
	for _, s := range []string{"", "a", "abc", "123456789", strings.Repeat("\x00", 20), strings.Repeat("\xff", 33)} {
		sealed := castle.Seal(s)
		for at := 0; at+4 <= len(sealed); at++ {
			staysShut(t, turned(sealed, at, 0xFFFFFFFF))
			for i := range 32 {
				for j := range i + 1 {
					staysShut(t, turned(sealed, at, 1<<i|1<<j))
				}
			}
			for range 200 {
				if mask := chance.Uint32(); mask != 0 {
					staysShut(t, turned(sealed, at, mask))
				}
			}
		}
	}
}

// What a turned bit does to a seal is the same beside any others, so no sum of such is nothing, if the 32 of four bytes are
// independent: then no turning within these bytes is overlooked.
func TestNoTurningWithinFourBytesIsOverlooked(t *testing.T) {
	const size = 64
	plain := strings.Repeat("\x00", size)
	for at := 0; at+4 <= size+4; at++ {
		var lead [32]uint32
		for i := range 32 {
			all := turned(plain+"\x00\x00\x00\x00", at, 1<<i)
			text, told := all[:size], all[size:]
			n := castle.Sum(text) ^ castle.Sum(plain)
			for k := range 4 {
				n ^= uint32(told[k]) << (8 * k)
			}
			for bit := 31; bit >= 0 && n != 0; bit-- {
				if n>>bit&1 == 0 {
					continue
				}
				if lead[bit] == 0 {
					lead[bit] = n
					break
				}
				n ^= lead[bit]
			}
			if n == 0 {
				t.Fatalf("from byte %d on, bit %d is turned by others", at, i)
			}
		}
	}
}
