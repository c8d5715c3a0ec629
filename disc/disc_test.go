package disc_test

import (
	"math"
	"math/rand"
	"slices"
	"strings"
	"testing"

	"tierce/api"
	"tierce/disc"
	"tierce/mains"
)

// sec answers a sector whose bytes are all b.
func sec(b byte) string {
	return strings.Repeat(string([]byte{b}), api.SectorSize)
}

// secs answers a sector for each byte of s.
func secs(s string) string {
	var out strings.Builder
	for i := range len(s) {
		out.WriteString(sec(s[i]))
	}
	return out.String()
}

// short answers s as an error tells it: a byte for each sector that is all the same.
func short(s string) string {
	var out strings.Builder
	for len(s) >= api.SectorSize && s[:api.SectorSize] == sec(s[0]) {
		out.WriteByte(s[0])
		s = s[api.SectorSize:]
	}
	return out.String() + "|" + s
}

// reads fails the test, unless all of d is read as want.
func reads(t *testing.T, d *disc.Disc, want string) {
	t.Helper()
	s, e := d.Read(0, d.Len())
	if e != api.OK || s != want {
		t.Errorf("Read: %q, %d; want %q", short(s), e, short(want))
	}
}

// safe fails the test, unless d's image is want.
func safe(t *testing.T, d *disc.Disc, want string) {
	t.Helper()
	if s := d.Image(); s != want {
		t.Errorf("Image: %q; want %q", short(s), short(want))
	}
}

// loose fails the test, unless d's loose sectors are want.
func loose(t *testing.T, d *disc.Disc, want ...int) {
	t.Helper()
	if l := d.Loose(); !slices.Equal(l, want) {
		t.Errorf("Loose: %v; want %v", l, want)
	}
}

// is fails the test, unless got is want.
func is(t *testing.T, what string, got, want api.Errno) {
	t.Helper()
	if got != want {
		t.Errorf("%s: %d; want %d", what, got, want)
	}
}

// ok fails the test, unless e is OK.
func ok(t *testing.T, e api.Errno) {
	t.Helper()
	is(t, "it", e, api.OK)
}

// used fails the test, unless m was used so often.
func used(t *testing.T, m *mains.Mains, want int) {
	t.Helper()
	if m.Uses() != want {
		t.Errorf("the power was used %d times; want %d", m.Uses(), want)
	}
}

// P4.1: New.

func TestNewHasSoManySectors(t *testing.T) {
	for _, c := range []struct{ sectors, want int }{
		{0, 0}, {1, 1}, {2, 2}, {17, 17},
		{api.MaxSectors - 1, api.MaxSectors - 1}, {api.MaxSectors, api.MaxSectors},
		{api.MaxSectors + 1, api.MaxSectors}, {math.MaxInt32, api.MaxSectors}, {math.MaxInt, api.MaxSectors},
		{-1, 0}, {-16, 0}, {math.MinInt32, 0}, {math.MinInt, 0},
	} {
		m := mains.New()
		d := disc.New(m, c.sectors)
		if d == nil || d.Len() != c.want {
			t.Fatalf("New(%d): Len %d; want %d", c.sectors, d.Len(), c.want)
		}
		zeros := strings.Repeat("\x00", c.want*api.SectorSize)
		reads(t, d, zeros)
		safe(t, d, zeros)
		loose(t, d)
		used(t, m, 0)
	}
}

// P4.1: Of.

func TestOfHasTheImagesWholeSectors(t *testing.T) {
	for _, n := range []int{0, 1, 15, 16, 17, 31, 32, 33, 47, 48, 1000,
		api.MaxSectors*16 - 1, api.MaxSectors * 16, api.MaxSectors*16 + 1, api.MaxSectors*16 + 15,
		api.MaxSectors*16 + 16, api.MaxSectors * 20} {
		image := whichever(n, rand.New(rand.NewSource(int64(n))))
		m := mains.New()
		d := disc.Of(m, image)
		want := min(n/api.SectorSize, api.MaxSectors)
		if d == nil || d.Len() != want {
			t.Fatalf("Of(%d bytes): Len %d; want %d", n, d.Len(), want)
		}
		reads(t, d, image[:want*api.SectorSize])
		safe(t, d, image[:want*api.SectorSize])
		loose(t, d)
		used(t, m, 0)
	}
}

// whichever answers n bytes, as chance has them.
func whichever(n int, chance *rand.Rand) string {
	b := make([]byte, n)
	chance.Read(b)
	return string(b)
}

func TestOfIsSafe(t *testing.T) {
	m := mains.New()
	d := disc.Of(m, secs("abc"))
	m.Cut()
	ok(t, d.Settle(""))
	safe(t, d, secs("abc"))
	m.Come()
	reads(t, d, secs("abc"))
}

func TestNewOfPowerThatIsAway(t *testing.T) {
	m := mains.New()
	m.Cut()
	d := disc.New(m, 2)
	safe(t, d, secs("\x00\x00"))
	d = disc.Of(m, secs("ab"))
	safe(t, d, secs("ab"))
	m.Come()
	reads(t, d, secs("ab"))
}

func TestDevicesOfOnePowerAreApart(t *testing.T) {
	m := mains.New()
	image := secs("abcd")
	a, b := disc.Of(m, image), disc.Of(m, image)
	c := disc.New(m, 4)
	ok(t, a.Write(1, secs("xy")))
	ok(t, c.Write(3, sec('z')))
	ok(t, c.Flush())
	reads(t, a, secs("axyd"))
	reads(t, b, secs("abcd"))
	reads(t, c, secs("\x00\x00\x00z"))
	loose(t, a, 1, 2)
	loose(t, b)
	loose(t, c)
	used(t, m, 4)
	m.Cut()
	_, e := b.Read(0, 1)
	is(t, "Read", e, api.ErrDown)
}

// P4.1 and rule 5: of nil.

func TestNil(t *testing.T) {
	var d *disc.Disc
	if d.Len() != 0 || d.Image() != "" || len(d.Loose()) != 0 {
		t.Error(d.Len(), d.Image(), d.Loose())
	}
	is(t, "Write", d.Write(0, sec('a')), api.ErrNil)
	is(t, "Write", d.Write(0, ""), api.ErrNil)
	is(t, "Write", d.Write(-1, "x"), api.ErrNil)
	is(t, "Flush", d.Flush(), api.ErrNil)
	is(t, "Settle", d.Settle(""), api.ErrNil)
	is(t, "Settle", d.Settle("\xff"), api.ErrNil)
	for _, c := range [][2]int{{0, 0}, {0, 1}, {-1, 1}, {0, -1}, {math.MinInt, math.MaxInt}} {
		s, e := d.Read(c[0], c[1])
		if s != "" || e != api.ErrNil {
			t.Errorf("Read(%d, %d): %q, %d", c[0], c[1], s, e)
		}
	}
}

// A device without power is one whose power can't be used and isn't there.
func TestNilPower(t *testing.T) {
	for _, d := range []*disc.Disc{disc.New(nil, 2), disc.Of(nil, secs("\x00\x00"))} {
		if d.Len() != 2 {
			t.Fatal(d.Len())
		}
		is(t, "Write", d.Write(0, "x"), api.ErrArg)
		is(t, "Write", d.Write(3, sec('a')), api.ErrRange)
		is(t, "Write", d.Write(0, sec('a')), api.ErrNil)
		is(t, "Flush", d.Flush(), api.ErrNil)
		loose(t, d)
		s, e := d.Read(0, 2)
		if s != "" || e != api.ErrDown {
			t.Errorf("Read: %q, %d", s, e)
		}
		is(t, "Settle", d.Settle("\xff"), api.OK)
		safe(t, d, secs("\x00\x00"))
	}
}

// P4.2: Write.

func TestWriteIsReadAtOnceAndLoose(t *testing.T) {
	m := mains.New()
	d := disc.Of(m, secs("abcdef"))
	ok(t, d.Write(2, secs("xy")))
	reads(t, d, secs("abxyef"))
	safe(t, d, secs("abcdef"))
	loose(t, d, 2, 3)
	used(t, m, 2)
	ok(t, d.Write(0, secs("p")))
	ok(t, d.Write(3, secs("qrs")))
	reads(t, d, secs("pbxqrs"))
	safe(t, d, secs("abcdef"))
	loose(t, d, 0, 2, 3, 4, 5)
	used(t, m, 6)
}

func TestWriteOfWhatStandsThereIsLooseToo(t *testing.T) {
	m := mains.New()
	d := disc.Of(m, secs("ab"))
	ok(t, d.Write(1, secs("b")))
	loose(t, d, 1)
	ok(t, disc.New(m, 1).Write(0, sec(0)))
	used(t, m, 2)
}

func TestWriteOfAllSectorsAndAllBytes(t *testing.T) {
	m := mains.New()
	d := disc.New(m, api.MaxSectors)
	s := whichever(api.MaxSectors*api.SectorSize, rand.New(rand.NewSource(4)))
	ok(t, d.Write(0, s))
	reads(t, d, s)
	used(t, m, api.MaxSectors)
	if l := d.Loose(); len(l) != api.MaxSectors || l[0] != 0 || l[len(l)-1] != api.MaxSectors-1 || !slices.IsSorted(l) {
		t.Error("Loose:", len(l))
	}
	is(t, "Write", d.Write(0, s+sec(1)), api.ErrRange)
	is(t, "Write", d.Write(1, s), api.ErrRange)
	ok(t, d.Flush())
	safe(t, d, s)
}

func TestWriteOfPartsOfSectors(t *testing.T) {
	m := mains.New()
	d := disc.Of(m, secs("abc"))
	for n := range 4 * api.SectorSize {
		if n%api.SectorSize == 0 {
			continue
		}
		s := strings.Repeat("x", n)
		for _, at := range []int{0, 1, 2, 3, 4, 9, -1, math.MinInt, math.MaxInt} {
			is(t, "Write", d.Write(at, s), api.ErrArg)
		}
	}
	reads(t, d, secs("abc"))
	loose(t, d)
	used(t, m, 0)
	m.Cut()
	is(t, "Write", d.Write(0, "x"), api.ErrArg)
	is(t, "Write", d.Write(9, "x"), api.ErrArg)
}

func TestWriteBeyondTheEnds(t *testing.T) {
	m := mains.New()
	d := disc.Of(m, secs("abc"))
	tries := func() {
		for _, c := range []struct{ at, n int }{
			{-1, 0}, {-1, 1}, {-1, 2}, {-3, 3}, {4, 0}, {3, 1}, {2, 2}, {1, 3}, {0, 4}, {4, 1},
			{math.MinInt, 0}, {math.MinInt, 1}, {math.MinInt, 3}, {math.MaxInt, 0}, {math.MaxInt, 1},
			{math.MaxInt - 1, 2}, {math.MaxInt - 2, 3}, {math.MaxInt, 3}, {1 << 32, 1}, {-1 << 32, 1},
		} {
			is(t, "Write", d.Write(c.at, strings.Repeat(sec('x'), c.n)), api.ErrRange)
		}
	}
	tries()
	reads(t, d, secs("abc"))
	loose(t, d)
	used(t, m, 0)
	m.Cut()
	tries() // ahead of ErrDown
}

func TestWriteUpToTheEnd(t *testing.T) {
	m := mains.New()
	d := disc.Of(m, secs("abc"))
	ok(t, d.Write(2, secs("z")))
	ok(t, d.Write(0, secs("xy")))
	reads(t, d, secs("xyz"))
	ok(t, d.Write(0, secs("pqr")))
	reads(t, d, secs("pqr"))
}

func TestWriteOfNothing(t *testing.T) {
	m := mains.New()
	d := disc.Of(m, secs("abc"))
	for at := range 4 {
		ok(t, d.Write(at, ""))
	}
	loose(t, d)
	used(t, m, 0)
	ok(t, disc.New(m, 0).Write(0, ""))
	is(t, "Write", disc.New(m, 0).Write(1, ""), api.ErrRange)
	is(t, "Write", disc.New(m, 0).Write(0, sec('a')), api.ErrRange)
	m.Cut() // no sector, no use
	ok(t, d.Write(3, ""))
}

func TestWriteWithPowerAway(t *testing.T) {
	m := mains.New()
	d := disc.Of(m, secs("abc"))
	m.Cut()
	is(t, "Write", d.Write(0, secs("x")), api.ErrDown)
	is(t, "Write", d.Write(0, secs("xyz")), api.ErrDown)
	loose(t, d)
	used(t, m, 0)
	m.Come()
	reads(t, d, secs("abc"))
}

func TestPowerGoesInTheMidstOfAWrite(t *testing.T) {
	for n := range 7 {
		m := mains.New()
		d := disc.Of(m, secs("abcdefgh"))
		m.Fuse(n)
		want := api.ErrDown
		if n == 6 {
			want = api.OK
		}
		is(t, "Write", d.Write(1, secs("qrstuv")), want)
		used(t, m, n)
		loose(t, d, []int{1, 2, 3, 4, 5, 6}[:n]...)
		safe(t, d, secs("abcdefgh"))
		if m.On() != (n == 6) {
			t.Error("the power:", m.On())
		}
		m.Come() // what was written ahead of that stays, as long as nobody settles
		reads(t, d, secs("a"+"qrstuv"[:n]+"bcdefg"[n:]+"h"))
	}
}

// P4.2: Read.

func TestReadOfAnySectors(t *testing.T) {
	m := mains.New()
	d := disc.Of(m, secs("abcde"))
	ok(t, d.Write(1, secs("x")))
	ok(t, d.Write(3, secs("y")))
	all := "axcye"
	for at := range 6 {
		for n := range 6 - at {
			s, e := d.Read(at, n)
			if e != api.OK || s != secs(all[at:at+n]) {
				t.Errorf("Read(%d, %d): %q, %d", at, n, short(s), e)
			}
		}
	}
	used(t, m, 2)
	loose(t, d, 1, 3)
}

func TestReadBeyondTheEnds(t *testing.T) {
	m := mains.New()
	d := disc.Of(m, secs("abc"))
	tries := func() {
		for _, c := range []struct{ at, n int }{
			{-1, 0}, {-1, 1}, {-1, 2}, {-3, 3}, {0, -1}, {1, -1}, {3, -1}, {3, -3}, {4, -1}, {-1, -1}, {4, 0}, {3, 1},
			{2, 2}, {1, 3}, {0, 4}, {4, 1}, {0, math.MaxInt}, {1, math.MaxInt}, {math.MaxInt, 0},
			{math.MaxInt, 1}, {math.MaxInt, math.MaxInt}, {math.MaxInt, math.MinInt}, {math.MinInt, math.MaxInt},
			{math.MinInt, 0}, {math.MinInt, 3}, {math.MinInt, math.MinInt}, {0, math.MinInt}, {3, math.MinInt},
			{math.MaxInt - 1, 2}, {1 << 32, 1}, {0, 1 << 32}, {1 << 60, 1 << 60},
		} {
			s, e := d.Read(c.at, c.n)
			if s != "" || e != api.ErrRange {
				t.Errorf("Read(%d, %d): %q, %d", c.at, c.n, s, e)
			}
		}
	}
	tries()
	m.Cut()
	tries() // ahead of ErrDown
}

func TestReadWithPowerAway(t *testing.T) {
	m := mains.New()
	d := disc.Of(m, secs("abc"))
	ok(t, d.Write(0, sec('x')))
	m.Cut()
	for _, c := range [][2]int{{0, 1}, {0, 3}, {2, 1}, {0, 0}, {3, 0}} {
		s, e := d.Read(c[0], c[1])
		if s != "" || e != api.ErrDown {
			t.Errorf("Read(%d, %d): %q, %d", c[0], c[1], s, e)
		}
	}
	m.Come()
	reads(t, d, secs("xbc"))
}

func TestReadUsesNoFuse(t *testing.T) {
	m := mains.New()
	d := disc.Of(m, secs("abc"))
	m.Fuse(0)
	reads(t, d, secs("abc"))
	reads(t, d, secs("abc"))
	is(t, "Flush", d.Flush(), api.ErrDown)
	_, e := d.Read(0, 1)
	is(t, "Read", e, api.ErrDown)
}

// P4.2: Flush.

func TestFlush(t *testing.T) {
	m := mains.New()
	d := disc.Of(m, secs("abcd"))
	ok(t, d.Write(3, secs("z")))
	ok(t, d.Write(0, secs("xy")))
	ok(t, d.Flush())
	loose(t, d)
	safe(t, d, secs("xycz"))
	reads(t, d, secs("xycz"))
	used(t, m, 4)
	ok(t, d.Flush()) // the power is used once, whatever there is to flush
	ok(t, d.Flush())
	used(t, m, 6)
	safe(t, d, secs("xycz"))
	ok(t, disc.New(m, 0).Flush())
	used(t, m, 7)
}

func TestFlushWithPowerAway(t *testing.T) {
	for _, goes := range []func(m *mains.Mains){(*mains.Mains).Cut, func(m *mains.Mains) { m.Fuse(0) }} {
		m := mains.New()
		d := disc.Of(m, secs("abc"))
		ok(t, d.Write(1, secs("x")))
		goes(m)
		is(t, "Flush", d.Flush(), api.ErrDown)
		is(t, "Flush", d.Flush(), api.ErrDown)
		loose(t, d, 1)
		safe(t, d, secs("abc"))
		used(t, m, 1)
		m.Come()
		reads(t, d, secs("axc"))
	}
}

// P4.2: Loose.

func TestLooseRises(t *testing.T) {
	m := mains.New()
	d := disc.New(m, api.MaxSectors)
	chance := rand.New(rand.NewSource(2))
	var want []int
	for _, at := range chance.Perm(api.MaxSectors)[:500] {
		ok(t, d.Write(at, sec('x')))
		ok(t, d.Write(at, sec('y'))) // twice, and told once
		want = append(want, at)
	}
	slices.Sort(want)
	loose(t, d, want...)
}

func TestLooseIsNewMemory(t *testing.T) {
	d := disc.New(mains.New(), 4)
	ok(t, d.Write(1, secs("xyz")))
	l := d.Loose()
	l[0], l[2] = 77, -1
	_ = append(l[:1], 99, 99, 99)
	loose(t, d, 1, 2, 3)
	m := mains.New()
	d = disc.New(m, 4)
	ok(t, d.Write(1, secs("xy")))
	l = d.Loose()
	ok(t, d.Write(0, secs("w")))
	if !slices.Equal(l, []int{1, 2}) {
		t.Error(l)
	}
}

func TestLooseWithPowerAway(t *testing.T) {
	m := mains.New()
	d := disc.New(m, 4)
	ok(t, d.Write(2, secs("xy")))
	m.Cut()
	loose(t, d, 2, 3)
	m.Come() // power that comes makes nothing safe, and loses nothing
	loose(t, d, 2, 3)
	reads(t, d, secs("\x00\x00xy"))
}

// P4.3: Settle.

func TestSettleWithPower(t *testing.T) {
	m := mains.New()
	d := disc.Of(m, secs("abc"))
	for _, keep := range []string{"", "\x00", "\xff", "x"} {
		is(t, "Settle", d.Settle(keep), api.ErrState)
	}
	ok(t, d.Write(0, secs("xy")))
	for _, keep := range []string{"", "\x00", "\xff", "x"} {
		is(t, "Settle", d.Settle(keep), api.ErrState)
		loose(t, d, 0, 1)
		reads(t, d, secs("xyc"))
		safe(t, d, secs("abc"))
	}
	m.Fuse(0) // it is there, till it is used
	is(t, "Settle", d.Settle(""), api.ErrState)
	m.Cut()
	m.Come()
	is(t, "Settle", d.Settle(""), api.ErrState)
	loose(t, d, 0, 1)
}

// settled answers what is left of as many sectors of a as w has, with one of b between each two, when w was written over
// the a's, and the power went, and it settled.
func settled(t *testing.T, w, keep string) string {
	t.Helper()
	m := mains.New()
	d := disc.Of(m, secs(strings.Repeat("ab", len(w))))
	for i := len(w) - 1; i >= 0; i-- {
		ok(t, d.Write(2*i, sec(w[i])))
	}
	m.Cut()
	ok(t, d.Settle(keep))
	loose(t, d)
	image := d.Image()
	m.Come()
	reads(t, d, image)
	used(t, m, len(w))
	var left strings.Builder
	for i := range len(w) {
		left.WriteByte(image[2*i*api.SectorSize])
		if image[2*i*api.SectorSize:][:2*api.SectorSize] != sec(image[2*i*api.SectorSize])+sec('b') {
			t.Error("the sectors", 2*i, "and", 2*i+1, "are neither what they were nor what was written")
		}
	}
	return left.String()
}

func TestSettleKeepsTheSectorsOfOneBits(t *testing.T) {
	for _, c := range []struct{ written, keep, want string }{
		{"", "", ""}, {"", "\xff", ""},
		{"x", "", "a"}, {"x", "\x00", "a"}, {"x", "\x01", "x"}, {"x", "\x02", "a"}, {"x", "\xfe", "a"}, {"x", "\xff", "x"},
		{"xyz", "", "aaa"}, {"xyz", "\x01", "xaa"}, {"xyz", "\x02", "aya"}, {"xyz", "\x04", "aaz"}, {"xyz", "\x06", "ayz"},
		{"xyz", "\x05", "xaz"}, {"xyz", "\xf8", "aaa"}, {"xyz", "\x07\xff", "xyz"}, {"xyz", "\x00\xff", "aaa"},
		{"01234567", "\x80", "aaaaaaa7"}, {"01234567", "\x40", "aaaaaa6a"}, {"01234567", "\x7f", "0123456a"},
		{"0123456789", "\x81", "0aaaaaa78a"},     // the byte comes again
		{"0123456789", "\x80\x02", "aaaaaaa7a9"}, // the second byte
		{"0123456789", "\x00\xff", "aaaaaaaa89"},
		{"0123456789", "\x00\xff\xff", "aaaaaaaa89"},
		{"0123456789ABCDEFGHI", "\x01\x02", "0aaaaaaaa9aaaaaaGaa"},
		{"0123456789ABCDEFGHI", "\x01\x02\x04", "0aaaaaaaa9aaaaaaaaI"},
		{"0123456789ABCDEFGHIJKLMNOPQ", "\x01\x02\x04", "0aaaaaaaa9aaaaaaaaIaaaaaOaa"},
		{"0123456789ABCDEFGHIJKLMNOPQ", "", strings.Repeat("a", 27)},
		{"0123456789ABCDEFGHIJKLMNOPQ", "\xff", "0123456789ABCDEFGHIJKLMNOPQ"},
	} {
		if got := settled(t, c.written, c.keep); got != c.want {
			t.Errorf("%q with %q: %q; want %q", c.written, c.keep, got, c.want)
		}
	}
}

// The numbers are those of the loose sectors, not of all, and not in the order of the writes.
func TestSettleCountsTheLooseSectorsAlone(t *testing.T) {
	m := mains.New()
	d := disc.Of(m, secs("abcdefgh"))
	ok(t, d.Write(7, secs("z")))
	ok(t, d.Write(4, secs("y")))
	ok(t, d.Flush())
	ok(t, d.Write(6, secs("w")))
	ok(t, d.Write(1, secs("u")))
	ok(t, d.Write(4, secs("v")))
	m.Cut()
	ok(t, d.Settle("\x05"))
	safe(t, d, secs("aucdyfwz"))
}

func TestSettleMakesSafe(t *testing.T) {
	m := mains.New()
	d := disc.Of(m, secs("abc"))
	ok(t, d.Write(0, secs("xyz")))
	m.Cut()
	ok(t, d.Settle("\x02"))
	ok(t, d.Settle("\xff")) // nothing is loose any more
	ok(t, d.Settle(""))
	safe(t, d, secs("ayc"))
	m.Come()
	ok(t, d.Write(1, secs("q")))
	loose(t, d, 1)
	m.Cut()
	ok(t, d.Settle("\x00"))
	safe(t, d, secs("ayc"))
	m.Come()
	reads(t, d, secs("ayc"))
	used(t, m, 4)
}

func TestSettleGoesBackToTheLastSafeOne(t *testing.T) {
	m := mains.New()
	d := disc.Of(m, secs("a"))
	ok(t, d.Write(0, secs("b")))
	ok(t, d.Flush())
	ok(t, d.Write(0, secs("c")))
	ok(t, d.Write(0, secs("d")))
	safe(t, d, secs("b"))
	m.Cut()
	ok(t, d.Settle(""))
	safe(t, d, secs("b"))
	m.Come()
	ok(t, d.Write(0, secs("e")))
	ok(t, d.Write(0, secs("f")))
	m.Cut()
	ok(t, d.Settle("\x01"))
	safe(t, d, secs("f")) // as it was written last
}

func TestWithoutSettleAllStaysLoose(t *testing.T) {
	m := mains.New()
	d := disc.Of(m, secs("ab"))
	ok(t, d.Write(1, secs("x")))
	m.Cut()
	safe(t, d, secs("ab"))
	m.Come()
	ok(t, d.Flush())
	safe(t, d, secs("ax"))
}

// P4.3: Image.

func TestImageWithPowerAway(t *testing.T) {
	m := mains.New()
	d := disc.Of(m, secs("ab")+"rest")
	ok(t, d.Write(0, secs("x")))
	m.Cut()
	safe(t, d, secs("ab"))
	safe(t, disc.Of(m, d.Image()), secs("ab"))
	loose(t, d, 0)
}

// P4.4.

func TestWhatWasFlushedStays(t *testing.T) {
	for keep := range 256 {
		m := mains.New()
		d := disc.New(m, 5)
		ok(t, d.Write(0, secs("abcde")))
		ok(t, d.Flush())
		ok(t, d.Write(1, secs("xyz")))
		m.Cut()
		ok(t, d.Settle(string([]byte{byte(keep)})))
		m.Come()
		want := []byte("abcde")
		for i := range 3 {
			if keep>>i&1 == 1 {
				want[1+i] = "xyz"[i]
			}
		}
		reads(t, d, secs(string(want)))
		safe(t, d, secs(string(want)))
	}
}

// P4.1 to P4.4: any calls, held against the chapter's words.

// words is a device as the chapter's words have it.
type words struct {
	now, was []string
	loose    []bool
}

func (w *words) list() []int {
	var out []int
	for at, l := range w.loose {
		if l {
			out = append(out, at)
		}
	}
	return out
}

func (w *words) write(m *mains.Mains, at int, s string) api.Errno {
	if len(s)%16 != 0 {
		return api.ErrArg
	}
	if at < 0 || at+len(s)/16 > len(w.now) {
		return api.ErrRange
	}
	for ; s != ""; at, s = at+1, s[16:] {
		if e := m.Use(); e != api.OK {
			return e
		}
		w.now[at], w.loose[at] = s[:16], true
	}
	return api.OK
}

func (w *words) flush(m *mains.Mains) api.Errno {
	if e := m.Use(); e != api.OK {
		return e
	}
	copy(w.was, w.now)
	clear(w.loose)
	return api.OK
}

func (w *words) settle(m *mains.Mains, keep string) api.Errno {
	if m.On() {
		return api.ErrState
	}
	for i, at := range w.list() {
		if len(keep) > 0 && keep[(i/8)%len(keep)]&(1<<(i%8)) != 0 {
			w.was[at] = w.now[at]
		} else {
			w.now[at] = w.was[at]
		}
	}
	clear(w.loose)
	return api.OK
}

func (w *words) read(m *mains.Mains, at, n int) (string, api.Errno) {
	if n < 0 || at < 0 || at+n > len(w.now) {
		return "", api.ErrRange
	}
	if !m.On() {
		return "", api.ErrDown
	}
	return strings.Join(w.now[at:at+n], ""), api.OK
}

// of answers words with an image's sectors.
func of(image string) *words {
	w := &words{loose: make([]bool, len(image)/16)}
	for ; len(image) >= 16; image = image[16:] {
		w.now = append(w.now, image[:16])
		w.was = append(w.was, image[:16])
	}
	return w
}

// step does one thing, whichever, to both, and tells whether they agree. Each has a power of its own.
func step(t *testing.T, chance *rand.Rand, d *disc.Disc, m *mains.Mains, w *words, mw *mains.Mains) {
	t.Helper()
	switch chance.Intn(12) {
	case 0:
		m.Cut()
		mw.Cut()
	case 1:
		n := chance.Intn(20) - 2
		m.Fuse(n)
		mw.Fuse(n)
	case 2, 3:
		keep := whichever(chance.Intn(4), chance)
		is(t, "Settle", d.Settle(keep), w.settle(mw, keep))
		m.Come()
		mw.Come()
	case 4:
		is(t, "Flush", d.Flush(), w.flush(mw))
	case 5, 6, 7:
		at, n := chance.Intn(d.Len()+4)-2, chance.Intn(d.Len()+2)-1
		s, e := d.Read(at, n)
		want, we := w.read(mw, at, n)
		if s != want || e != we {
			t.Errorf("Read(%d, %d): %d; want %d", at, n, e, we)
		}
	default:
		at, n := chance.Intn(d.Len()+4)-2, 16*chance.Intn(8)
		if chance.Intn(9) == 0 {
			n += chance.Intn(16)
		}
		s := whichever(n, chance)
		is(t, "Write", d.Write(at, s), w.write(mw, at, s))
	}
}

func TestAnyCalls(t *testing.T) {
	chance := rand.New(rand.NewSource(4))
	for range 150 {
		image := whichever(chance.Intn(500), chance)
		m, mw := mains.New(), mains.New()
		d, w := disc.Of(m, image), of(image)
		for range 150 {
			step(t, chance, d, m, w, mw)
			loose(t, d, w.list()...)
			safe(t, d, strings.Join(w.was, ""))
			if m.On() != mw.On() || m.Uses() != mw.Uses() || m.Lives() != mw.Lives() || d.Len() != len(w.now) {
				t.Fatal("the power, or Len")
			}
		}
	}
}
