package head_test

import (
	"encoding/binary"
	"hash/crc32"
	"math"
	"math/rand"
	"strings"
	"testing"

	"tierce/api"
	"tierce/head"
)

// Helpers: sectors as the chapter's words have them, made without the layers below.

// sealed answers text with its sum behind it.
func sealed(text string) string {
	sum := crc32.Checksum([]byte(text), crc32.MakeTable(crc32.Castagnoli))
	return string(binary.LittleEndian.AppendUint32([]byte(text), sum))
}

// sectorOf answers the sector of these parts, whether a head can have them or not.
func sectorOf(chunk byte, slow, fast uint16, gen uint32, root uint16) string {
	b := []byte{0x54, chunk}
	b = binary.LittleEndian.AppendUint16(b, slow)
	b = binary.LittleEndian.AppendUint16(b, fast)
	b = binary.LittleEndian.AppendUint32(b, gen)
	b = binary.LittleEndian.AppendUint16(b, root)
	return sealed(string(b))
}

// sectorFor answers the sector of a head that can be.
func sectorFor(h api.Head) string {
	return sectorOf(byte(h.Chunk), uint16(h.Slots[0]), uint16(h.Slots[1]), uint32(h.Gen), uint16(h.Root))
}

// plain answers a head that can be, of a Gen.
func plain(gen uint64) api.Head {
	return api.Head{Gen: gen, Root: 5, Slots: [2]int{100, 20}, Chunk: 4}
}

// canBe fails the test, unless h is a head that can be, whose sector is want, and is read so.
func canBe(t *testing.T, h api.Head, want string) {
	t.Helper()
	if !head.Good(h) {
		t.Errorf("Good(%v): false", h)
	}
	if s, e := head.Bytes(h); s != want || e != api.OK {
		t.Errorf("Bytes(%v) = %q, %d; want %q", h, s, e, want)
	}
	if got, e := head.Read(want); got != h || e != api.OK {
		t.Errorf("Read(%q) = %v, %d; want %v", want, got, e, h)
	}
}

// cannotBe fails the test, unless h is a head that can't be.
func cannotBe(t *testing.T, h api.Head) {
	t.Helper()
	if head.Good(h) {
		t.Errorf("Good(%v): true", h)
	}
	if s, e := head.Bytes(h); s != "" || e != api.ErrArg {
		t.Errorf("Bytes(%v) = %q, %d; want nothing, ErrArg", h, s, e)
	}
}

// isNone fails the test, unless s is no head's sector.
func isNone(t *testing.T, s string) {
	t.Helper()
	if h, e := head.Read(s); h != (api.Head{}) || e != api.ErrForm {
		t.Errorf("Read(%q) = %v, %d; want nothing, ErrForm", s, h, e)
	}
}

// newest fails the test, unless want is the newest of a and b, and is at.
func newest(t *testing.T, a, b string, want api.Head, at int) {
	t.Helper()
	if h, i, e := head.Newest(a, b); h != want || i != at || e != api.OK {
		t.Errorf("Newest(%q, %q) = %v, %d, %d; want %v, %d", a, b, h, i, e, want, at)
	}
}

// noneIsNewest fails the test, unless neither a nor b is a head.
func noneIsNewest(t *testing.T, a, b string) {
	t.Helper()
	if h, i, e := head.Newest(a, b); h != (api.Head{}) || i != 0 || e != api.ErrForm {
		t.Errorf("Newest(%q, %q) = %v, %d, %d; want nothing, 0, ErrForm", a, b, h, i, e)
	}
}

// some answers a head that can be, whichever.
func some(chance *rand.Rand) api.Head {
	return api.Head{
		Gen:   uint64(chance.Uint32()>>chance.Intn(32))/2 + 1,
		Root:  chance.Intn(512),
		Slots: [2]int{chance.Intn(256) + 1, chance.Intn(256) + 1},
		Chunk: chance.Intn(8) + 1,
	}
}

// notHeads answers texts that are no head's sector.
func notHeads() []string {
	good := sectorFor(plain(9))
	return []string{
		"",
		"T",
		strings.Repeat("\x00", 16),
		strings.Repeat("\xff", 16),
		strings.Repeat("\x00", 256),
		good[:15],
		good + "\x00",
		good + good,
		"\x00" + good,
		good[:12] + "\x00\x00\x00\x00",
		good[:12] + string([]byte{good[15], good[14], good[13], good[12]}),
		sealed("L" + good[1:12]),
		sealed("\x00" + good[1:12]),
		sectorOf(0, 1, 1, 1, 0),
		sectorOf(9, 1, 1, 1, 0),
		sectorOf(255, 1, 1, 1, 0),
		sectorOf(1, 0, 1, 1, 0),
		sectorOf(1, 257, 1, 1, 0),
		sectorOf(1, 65535, 1, 1, 0),
		sectorOf(1, 1, 0, 1, 0),
		sectorOf(1, 1, 257, 1, 0),
		sectorOf(1, 1, 65535, 1, 0),
		sectorOf(1, 1, 1, 0, 0),
		sectorOf(1, 1, 1, 1, 512),
		sectorOf(1, 1, 1, 1, 65535),
	}
}

// P6.1: heads that can be, and their bytes.

func TestBytesByHand(t *testing.T) {
	for _, c := range []struct {
		h    api.Head
		text string
	}{
		{api.Head{Gen: 0x01020304, Root: 0x0102, Slots: [2]int{256, 1}, Chunk: 8}, "T\x08\x00\x01\x01\x00\x04\x03\x02\x01\x02\x01"},
		{api.Head{Gen: 1, Slots: [2]int{1, 1}, Chunk: 1}, "T\x01\x01\x00\x01\x00\x01\x00\x00\x00\x00\x00"},
		{api.Head{Gen: 0xffffffff, Root: 511, Slots: [2]int{256, 256}, Chunk: 8}, "T\x08\x00\x01\x00\x01\xff\xff\xff\xff\xff\x01"},
		{api.Head{Gen: 0xf1f2f3f4, Root: 7, Slots: [2]int{3, 255}, Chunk: 2}, "T\x02\x03\x00\xff\x00\xf4\xf3\xf2\xf1\x07\x00"},
	} {
		canBe(t, c.h, sealed(c.text))
		if len(sealed(c.text)) != api.SectorSize {
			t.Error(len(c.text))
		}
	}
}

// The sum by hand too, so that no other program's sum is asked.
func TestBytesWithTheSumByHand(t *testing.T) {
	sum := uint32(0xFFFFFFFF)
	text := "T\x01\x01\x00\x01\x00\x01\x00\x00\x00\x00\x00"
	for i := range len(text) {
		sum ^= uint32(text[i])
		for range 8 {
			if sum&1 == 1 {
				sum = sum>>1 ^ 0x82F63B78
			} else {
				sum >>= 1
			}
		}
	}
	sum = ^sum
	want := text + string([]byte{byte(sum), byte(sum >> 8), byte(sum >> 16), byte(sum >> 24)})
	canBe(t, api.Head{Gen: 1, Slots: [2]int{1, 1}, Chunk: 1}, want)
}

func TestTheEmptyHeadCannotBe(t *testing.T) { cannotBe(t, api.Head{}) }

func TestGens(t *testing.T) {
	for _, gen := range []uint64{1, 2, 255, 256, 65535, 65536, 1<<31 - 1, 1 << 31, 1<<32 - 2, 1<<32 - 1} {
		canBe(t, plain(gen), sectorOf(4, 100, 20, uint32(gen), 5))
	}
	for _, gen := range []uint64{0, 1 << 32, 1<<32 + 1, 1<<33 - 1, 1<<63 - 1, 1 << 63, 1<<63 + 1, math.MaxUint64} {
		cannotBe(t, plain(gen))
	}
}

// others are numbers that are beyond both ends of each part, among them those that look as if they weren't, if cut off.
func others(low, high int) []int {
	return []int{low - 1, high + 1, low - 2, high + 2, -1, -255, -256, -511, 1 << 10, 1<<16 + 1, -1<<16 + 1, 1<<32 + 1, -1<<32 + 1, math.MinInt, math.MinInt + 1, math.MaxInt - 1, math.MaxInt}
}

func TestRoots(t *testing.T) {
	h := plain(3)
	for root := range 512 {
		h.Root = root
		canBe(t, h, sectorOf(4, 100, 20, 3, uint16(root)))
	}
	for _, root := range others(0, 511) {
		h.Root = root
		cannotBe(t, h)
	}
}

func TestSlotsOfEachTier(t *testing.T) {
	for tier := range 2 {
		h := plain(3)
		for n := 1; n <= 256; n++ {
			h.Slots[tier] = n
			canBe(t, h, sectorOf(4, uint16(h.Slots[0]), uint16(h.Slots[1]), 3, 5))
		}
		for _, n := range others(1, 256) {
			h.Slots[tier] = n
			cannotBe(t, h)
		}
	}
	both := plain(3)
	both.Slots = [2]int{0, 0}
	cannotBe(t, both)
	both.Slots = [2]int{257, 257}
	cannotBe(t, both)
}

func TestChunks(t *testing.T) {
	h := plain(3)
	for chunk := 1; chunk <= 8; chunk++ {
		h.Chunk = chunk
		canBe(t, h, sectorOf(byte(chunk), 100, 20, 3, 5))
	}
	for _, chunk := range append(others(1, 8), 16, 255, 256, 257, 264) {
		h.Chunk = chunk
		cannotBe(t, h)
	}
}

// P6.1: Read of what is no head's sector.

func TestReadOfTextsThatAreNone(t *testing.T) {
	for _, s := range notHeads() {
		isNone(t, s)
	}
}

func TestReadOfOtherLengths(t *testing.T) {
	s := sectorFor(plain(9))
	for n := range len(s) {
		isNone(t, s[:n])
		isNone(t, s[n+1:])
	}
	for n := range 64 {
		if n != 12 {
			text := (s[:12] + strings.Repeat("\x00", 64))[:n]
			isNone(t, sealed(text))
		}
	}
	isNone(t, sealed(s))
	isNone(t, strings.Repeat(s, 16))
}

// Every other value of each byte of a sector, with the sum of that: it is read just if a head that can be has these bytes.
func TestReadOfEachByteWithItsSum(t *testing.T) {
	for _, h := range []api.Head{plain(1), plain(256), {Gen: 1, Slots: [2]int{1, 1}, Chunk: 1}, {Gen: 1<<32 - 1, Root: 511, Slots: [2]int{256, 256}, Chunk: 8}} {
		for at := range 12 {
			for v := range 256 {
				b := []byte(sectorFor(h))[:12]
				b[at] = byte(v)
				readsAsTold(t, sealed(string(b)))
			}
		}
	}
}

// readsAsTold fails the test, unless Read of a sector with its sum answers what the chapter's words ask for.
func readsAsTold(t *testing.T, s string) {
	t.Helper()
	h := api.Head{
		Chunk: int(s[1]),
		Slots: [2]int{int(s[2]) + 256*int(s[3]), int(s[4]) + 256*int(s[5])},
		Gen:   uint64(binary.LittleEndian.Uint32([]byte(s[6:10]))),
		Root:  int(s[10]) + 256*int(s[11]),
	}
	good := s[0] == 'T' && h.Chunk > 0 && h.Chunk < 9 && h.Gen > 0 && h.Root < 512
	for _, n := range h.Slots {
		good = good && n > 0 && n < 257
	}
	if !good {
		isNone(t, s)
		return
	}
	canBe(t, h, s)
}

func TestReadOfAnyBytes(t *testing.T) {
	chance := rand.New(rand.NewSource(61))
	for range 20000 {
		b := make([]byte, 12)
		chance.Read(b)
		b[0] = 'T'
		b[1] %= 12
		for _, at := range []int{3, 5, 11} {
			b[at] %= 3
		}
		readsAsTold(t, sealed(string(b)))
	}
}

// P6.2.

func TestNewestOfTwoHeads(t *testing.T) {
	gens := []uint64{1, 2, 3, 255, 256, 257, 65535, 65536, 1<<24 + 1, 1<<31 - 1, 1 << 31, 1<<31 + 1, 1<<32 - 2, 1<<32 - 1}
	for i, low := range gens {
		for _, high := range gens[i+1:] {
			a, b := plain(low), plain(high)
			newest(t, sectorFor(a), sectorFor(b), b, 1)
			newest(t, sectorFor(b), sectorFor(a), b, 0)
		}
	}
}

// Nothing but the Gen counts.
func TestNewestByTheGenAlone(t *testing.T) {
	small := api.Head{Gen: 8, Slots: [2]int{1, 1}, Chunk: 1}
	great := api.Head{Gen: 7, Root: 511, Slots: [2]int{256, 256}, Chunk: 8}
	newest(t, sectorFor(small), sectorFor(great), small, 0)
	newest(t, sectorFor(great), sectorFor(small), small, 1)
}

func TestNewestOfTwoWithTheSameGen(t *testing.T) {
	for _, gen := range []uint64{1, 77, 1<<32 - 1} {
		a := api.Head{Gen: gen, Root: 1, Slots: [2]int{2, 3}, Chunk: 1}
		b := api.Head{Gen: gen, Root: 9, Slots: [2]int{4, 5}, Chunk: 8}
		newest(t, sectorFor(a), sectorFor(b), a, 0)
		newest(t, sectorFor(b), sectorFor(a), b, 0)
		newest(t, sectorFor(a), sectorFor(a), a, 0)
	}
}

func TestNewestWhereOneIsNoHead(t *testing.T) {
	for _, gen := range []uint64{1, 2, 1<<32 - 1} {
		h := plain(gen)
		for _, s := range notHeads() {
			newest(t, sectorFor(h), s, h, 0)
			newest(t, s, sectorFor(h), h, 1)
		}
	}
}

func TestNewestWhereNeitherIsAHead(t *testing.T) {
	for _, a := range notHeads() {
		for _, b := range notHeads() {
			noneIsNewest(t, a, b)
		}
	}
}

// A Gen that no head can have is no greater one.
func TestNewestBesideSectorsThatCannotBe(t *testing.T) {
	h := plain(1)
	for _, s := range []string{sectorOf(4, 100, 20, 0, 5), sectorOf(9, 100, 20, 1<<32-1, 5), sectorOf(4, 100, 20, 1<<32-1, 512), sealed("L" + sectorFor(plain(1 << 31))[1:12])} {
		newest(t, s, sectorFor(h), h, 1)
		newest(t, sectorFor(h), s, h, 0)
	}
}

// P6.3.

func TestWhatWasWrittenIsRead(t *testing.T) {
	chance := rand.New(rand.NewSource(63))
	for range 20000 {
		h := some(chance)
		canBe(t, h, sectorFor(h))
	}
}

// turned answers s with the bits of mask turned in the four bytes from at on.
func turned(s string, at int, mask uint32) string {
	b := []byte(s)
	for i := range 4 {
		b[at+i] ^= byte(mask >> (8 * i))
	}
	return string(b)
}

// turnings answers masks of bits to be turned: each alone, each two, all, and any.
func turnings(chance *rand.Rand) []uint32 {
	list := []uint32{math.MaxUint32}
	for i := range 32 {
		for j := range i + 1 {
			list = append(list, 1<<i|1<<j)
		}
	}
	for range 100 {
		list = append(list, max(1, chance.Uint32()))
	}
	return list
}

func TestWhatWasTurnedWithinFourBytes(t *testing.T) {
	chance := rand.New(rand.NewSource(64))
	for range 10 {
		h, other := some(chance), some(chance)
		s, e := head.Bytes(h)
		if e != api.OK {
			t.Fatal(h, e)
		}
		for at := 0; at+4 <= len(s); at++ {
			for _, mask := range turnings(chance) {
				spoilt := turned(s, at, mask)
				isNone(t, spoilt)
				newest(t, spoilt, sectorFor(other), other, 1)
				newest(t, sectorFor(other), spoilt, other, 0)
				noneIsNewest(t, spoilt, spoilt)
			}
		}
	}
}

// The older of two is the newest, where the newer one is turned.
func TestTheOlderOneIsThereWhereTheNewerIsTurned(t *testing.T) {
	older, newer := plain(6), plain(7)
	for at := 0; at+4 <= api.SectorSize; at++ {
		spoilt := turned(sectorFor(newer), at, 0x80000001)
		newest(t, sectorFor(older), spoilt, older, 0)
		newest(t, spoilt, sectorFor(older), older, 1)
	}
}

// The chapter's example.
func TestNewestOfZerosAndAHead(t *testing.T) {
	h := plain(1)
	newest(t, strings.Repeat("\x00", 16), sectorFor(h), h, 1)
}

// The rules that hold everywhere: an answer hangs on the arguments alone.

func TestNothingIsKeptFromCallToCall(t *testing.T) {
	one, other := plain(3), plain(2)
	for range 3 {
		canBe(t, one, sectorFor(one))
		cannotBe(t, api.Head{})
		newest(t, sectorFor(one), sectorFor(other), one, 0)
		noneIsNewest(t, "", "")
		newest(t, "", sectorFor(other), other, 1)
		isNone(t, "")
	}
}
