package chunk_test

import (
	"math"
	"math/rand"
	"strings"
	"testing"

	"tierce/api"
	"tierce/chunk"
	"tierce/disc"
	"tierce/mains"
)

// Numbers of the document, written out, so that these tests hold the limits too.
const (
	slow       = 0
	fast       = 1
	sectorSize = 16
	maxChunk   = 8
	maxSlots   = 256
	maxSectors = 16384
)

// Helpers: bytes.

// secs answers a sector for each byte of s.
func secs(s string) string {
	var out strings.Builder
	for i := range len(s) {
		out.WriteString(strings.Repeat(s[i:i+1], sectorSize))
	}
	return out.String()
}

// short answers sectors as an error tells them: a byte for each that is all the same.
func short(s string) string {
	var out strings.Builder
	for len(s) >= sectorSize && s[:sectorSize] == strings.Repeat(s[:1], sectorSize) {
		out.WriteByte(s[0])
		s = s[sectorSize:]
	}
	return out.String() + "|" + s
}

// zeros answers so many sectors of zeros.
func zeros(n int) string { return strings.Repeat("\x00", n*sectorSize) }

// whichever answers n sectors, as chance has them.
func whichever(n int, chance *rand.Rand) string {
	b := make([]byte, n*sectorSize)
	chance.Read(b)
	return string(b)
}

// ends answers whole numbers that no tier, slot or sector has, the ends of their type among them.
func ends() []int {
	return []int{math.MinInt, math.MinInt + 1, math.MinInt32, -1 << 32, -256, -2, -1, maxSectors, 1 << 32, 1<<32 + 1, math.MaxInt32, math.MaxInt - 1, math.MaxInt}
}

// up and down answer spots of the fast and of the slow tier.
func up(slot int) api.Spot   { return api.Spot{Tier: fast, Slot: slot} }
func down(slot int) api.Spot { return api.Spot{Tier: slow, Slot: slot} }

// Helpers: a rig is a deck over two devices with a power each, and what these must have by the chapter's words.

type rig struct {
	deck   *chunk.Deck
	size   int
	power  [2]*mains.Mains
	device [2]*disc.Disc
	now    [2]string // what each device is read as
	loose  [2]map[int]bool
}

// whole answers a rig with two devices of so many sectors, each of which has bytes of its own.
func whole(t *testing.T, slowSecs, fastSecs, size int) *rig {
	t.Helper()
	chance := rand.New(rand.NewSource(int64(slowSecs*1000 + fastSecs*10 + size)))
	r := &rig{size: size}
	for tier, n := range []int{slowSecs, fastSecs} {
		r.power[tier] = mains.New()
		r.now[tier] = whichever(n, chance)
		r.device[tier] = disc.Of(r.power[tier], r.now[tier])
		r.loose[tier] = map[int]bool{}
	}
	var e api.Errno
	r.deck, e = chunk.New(r.device[slow], r.device[fast], size)
	if e != api.OK || r.deck == nil {
		t.Fatalf("New of %d and %d sectors, %d: %d", slowSecs, fastSecs, size, e)
	}
	return r
}

// slots answers how many slots a tier of the rig has.
func (r *rig) slots(tier int) int {
	if tier != slow && tier != fast {
		return 0
	}
	return min(len(r.now[tier])/sectorSize/r.size, maxSlots)
}

// has answers whether there is such a spot.
func (r *rig) has(s api.Spot) bool { return s.Slot >= 0 && s.Slot < r.slots(s.Tier) }

// sectors answers n sectors of a chunk, as they must be.
func (r *rig) sectors(s api.Spot, at, n int) string {
	from := (s.Slot*r.size + at) * sectorSize
	return r.now[s.Tier][from : from+n*sectorSize]
}

// note says that sectors of a chunk were written.
func (r *rig) note(s api.Spot, at int, text string) {
	from := s.Slot*r.size + at
	was := r.now[s.Tier]
	r.now[s.Tier] = was[:from*sectorSize] + text + was[from*sectorSize+len(text):]
	for i := range len(text) / sectorSize {
		r.loose[s.Tier][from+i] = true
	}
}

// holds fails the test, unless both devices have all that they must have, and as many loose sectors.
func (r *rig) holds(t *testing.T) {
	t.Helper()
	for tier, d := range r.device {
		got, e := d.Read(0, d.Len())
		if r.power[tier].On() && (e != api.OK || got != r.now[tier]) {
			t.Fatalf("tier %d has %q, %d; want %q", tier, short(got), e, short(r.now[tier]))
		}
		for _, at := range d.Loose() {
			if !r.loose[tier][at] {
				t.Fatalf("tier %d: sector %d is loose", tier, at)
			}
		}
		if n := r.deck.Loose(tier); n != len(r.loose[tier]) || n != len(d.Loose()) {
			t.Fatalf("Loose(%d) is %d; want %d", tier, n, len(r.loose[tier]))
		}
	}
}

// reads fails the test, unless Read answers as it must.
func (r *rig) reads(t *testing.T, s api.Spot, at, n int) {
	t.Helper()
	want, wantE := "", api.OK
	switch {
	case !r.has(s):
		wantE = api.ErrArg
	case at < 0 || n < 0 || at > r.size || n > r.size || at+n > r.size:
		wantE = api.ErrRange
	case !r.power[s.Tier].On():
		wantE = api.ErrDown
	default:
		want = r.sectors(s, at, n)
	}
	if got, e := r.deck.Read(s, at, n); got != want || e != wantE {
		t.Fatalf("Read(%v, %d, %d) = %q, %d; want %q, %d", s, at, n, short(got), e, short(want), wantE)
	}
}

// writes fails the test, unless Write answers as it must; what is written is noted.
func (r *rig) writes(t *testing.T, s api.Spot, at int, text string) {
	t.Helper()
	want := api.OK
	n := len(text) / sectorSize
	switch {
	case !r.has(s) || len(text)%sectorSize != 0:
		want = api.ErrArg
	case at < 0 || at > r.size || n > r.size || at+n > r.size:
		want = api.ErrRange
	default:
		r.note(s, at, text)
	}
	is(t, "Write", r.deck.Write(s, at, text), want)
}

// copies fails the test, unless Copy answers as it must; what is written is noted.
func (r *rig) copies(t *testing.T, from, to api.Spot) {
	t.Helper()
	want := api.ErrArg
	if r.has(from) && r.has(to) {
		want = api.OK
		r.note(to, 0, r.sectors(from, 0, r.size))
	}
	if e := r.deck.Copy(from, to); e != want {
		t.Fatalf("Copy(%v, %v): %d; want %d", from, to, e, want)
	}
}

// clears fails the test, unless Zero answers as it must; what is written is noted.
func (r *rig) clears(t *testing.T, s api.Spot) {
	t.Helper()
	want := api.ErrArg
	if r.has(s) {
		want = api.OK
		r.note(s, 0, zeros(r.size))
	}
	if e := r.deck.Zero(s); e != want {
		t.Fatalf("Zero(%v): %d; want %d", s, e, want)
	}
}

// flushes fails the test, unless Flush answers as it must; what it makes safe is noted.
func (r *rig) flushes(t *testing.T, tier int) {
	t.Helper()
	want := api.ErrArg
	if tier == slow || tier == fast {
		want = api.OK
		clear(r.loose[tier])
	}
	if e := r.deck.Flush(tier); e != want {
		t.Fatalf("Flush(%d): %d; want %d", tier, e, want)
	}
}

// is fails the test, unless got is want.
func is(t *testing.T, what string, got, want api.Errno) {
	t.Helper()
	if got != want {
		t.Fatalf("%s: %d; want %d", what, got, want)
	}
}

// used fails the test, unless the power was used so often.
func used(t *testing.T, m *mains.Mains, want int) {
	t.Helper()
	if m.Uses() != want {
		t.Errorf("the power was used %d times; want %d", m.Uses(), want)
	}
}

// wrong answers spots that the rig doesn't have.
func (r *rig) wrong() []api.Spot {
	var out []api.Spot
	for _, tier := range []int{slow, fast} {
		out = append(out, api.Spot{Tier: tier, Slot: r.slots(tier)}, api.Spot{Tier: tier, Slot: r.slots(tier) + 1})
		for _, slot := range append(ends(), maxSlots, maxSlots+1) {
			out = append(out, api.Spot{Tier: tier, Slot: slot})
		}
	}
	for _, tier := range append(ends(), 2, 3, 256, 257) {
		out = append(out, api.Spot{Tier: tier}, api.Spot{Tier: tier, Slot: 1}, api.Spot{Tier: tier, Slot: -1})
	}
	return out
}

// all answers all spots that the rig has.
func (r *rig) all() []api.Spot {
	var out []api.Spot
	for tier := range 2 {
		for slot := range r.slots(tier) {
			out = append(out, api.Spot{Tier: tier, Slot: slot})
		}
	}
	return out
}

// P18.1: New.

// made fails the test, unless New answers as it must of two devices of so many sectors.
func made(t *testing.T, slowSecs, fastSecs, size int) {
	t.Helper()
	m := mains.New()
	d, e := chunk.New(disc.New(m, slowSecs), disc.New(m, fastSecs), size)
	if size < 1 || size > maxChunk || slowSecs < size || fastSecs < size {
		if d != nil || e != api.ErrArg {
			t.Errorf("New of %d and %d sectors, %d: %v, %d; want nil, ErrArg", slowSecs, fastSecs, size, d, e)
		}
		return
	}
	if e != api.OK || d == nil {
		t.Fatalf("New of %d and %d sectors, %d: %d", slowSecs, fastSecs, size, e)
	}
	if d.Size() != size || d.Slots(slow) != min(slowSecs/size, maxSlots) || d.Slots(fast) != min(fastSecs/size, maxSlots) {
		t.Errorf("of %d and %d sectors, %d: Size %d, Slots %d, %d", slowSecs, fastSecs, size, d.Size(), d.Slots(slow), d.Slots(fast))
	}
	if d.Loose(slow) != 0 || d.Loose(fast) != 0 {
		t.Error("something is loose", d.Loose(slow), d.Loose(fast))
	}
	used(t, m, 0)
}

func TestTheLimits(t *testing.T) {
	if api.Slow != slow || api.Fast != fast || api.SectorSize != sectorSize {
		t.Error(api.Slow, api.Fast, api.SectorSize)
	}
	if api.MaxChunk != maxChunk || api.MaxSlots != maxSlots || api.MaxSectors != maxSectors {
		t.Error(api.MaxChunk, api.MaxSlots, api.MaxSectors)
	}
}

func TestNewOfEachSize(t *testing.T) {
	for size := -20; size <= 40; size++ {
		made(t, 100, 90, size)
		made(t, maxSectors, maxSectors, size)
	}
	for _, size := range ends() {
		made(t, 100, 90, size)
		made(t, maxSectors, maxSectors, size)
	}
}

func TestNewNeedsRoomForOneChunk(t *testing.T) {
	for size := 1; size <= maxChunk; size++ {
		for slowSecs := range 20 {
			for fastSecs := range 20 {
				made(t, slowSecs, fastSecs, size)
			}
		}
	}
}

func TestNewOfNil(t *testing.T) {
	m := mains.New()
	some := disc.New(m, 20)
	for _, c := range []struct{ slow, fast *disc.Disc }{{nil, some}, {some, nil}, {nil, nil}, {nil, disc.New(m, 0)}, {disc.New(m, 0), nil}} {
		for _, size := range append(ends(), 0, 1, 3, 8, 9, 30) {
			if d, e := chunk.New(c.slow, c.fast, size); d != nil || e != api.ErrNil {
				t.Errorf("New(%v, %v, %d): %v, %d; want nil, ErrNil", c.slow, c.fast, size, d, e)
			}
		}
	}
}

func TestNewWithoutPower(t *testing.T) {
	m := mains.New()
	m.Cut()
	d, e := chunk.New(disc.New(m, 11), disc.New(m, 6), 3)
	if e != api.OK || d.Size() != 3 || d.Slots(slow) != 3 || d.Slots(fast) != 2 {
		t.Error(e)
	}
}

// P18.1: Slots.

func TestSlotsUpToTheMost(t *testing.T) {
	for size := 1; size <= maxChunk; size++ {
		most := maxSlots * size
		for _, n := range []int{most - size - 1, most - size, most - 1, most, most + 1, most + size - 1, most + size, most + 2*size, 2 * most, maxSectors} {
			made(t, min(n, maxSectors), size, size)
			made(t, size, min(n, maxSectors), size)
			made(t, min(n, maxSectors), min(n, maxSectors), size)
		}
	}
}

func TestSlotsAndLooseOfNoTier(t *testing.T) {
	r := whole(t, 40, 30, 4)
	r.writes(t, down(0), 0, secs("ab"))
	r.writes(t, up(0), 0, secs("abc"))
	for _, tier := range append(ends(), 2, 3, 256, 257) {
		if r.deck.Slots(tier) != 0 || r.deck.Loose(tier) != 0 {
			t.Errorf("tier %d: Slots %d, Loose %d", tier, r.deck.Slots(tier), r.deck.Loose(tier))
		}
	}
	if r.deck.Slots(slow) != 10 || r.deck.Slots(fast) != 7 {
		t.Error(r.deck.Slots(slow), r.deck.Slots(fast))
	}
}

// P18.1: Loose.

func TestLooseCountsEachTiersSectors(t *testing.T) {
	r := whole(t, 11, 6, 3)
	r.writes(t, down(1), 1, secs("ab"))
	r.holds(t)
	r.writes(t, down(1), 2, secs("c")) // it is loose already
	r.writes(t, up(0), 0, secs("d"))
	r.holds(t)
	if r.deck.Loose(slow) != 2 || r.deck.Loose(fast) != 1 {
		t.Error(r.deck.Loose(slow), r.deck.Loose(fast))
	}
	r.power[slow].Cut()
	r.power[fast].Cut()
	if r.deck.Loose(slow) != 2 || r.deck.Loose(fast) != 1 {
		t.Error("without power", r.deck.Loose(slow), r.deck.Loose(fast))
	}
}

// The sectors behind the last slot are no chunk's, but the device's.
func TestLooseCountsSectorsOfNoChunk(t *testing.T) {
	m := mains.New()
	a, b := disc.New(m, 11), disc.New(m, 300)
	d, e := chunk.New(a, b, 3)
	is(t, "New", e, api.OK)
	is(t, "Write", a.Write(8, secs("xyz")), api.OK)
	if d.Loose(slow) != 3 || d.Loose(fast) != 0 {
		t.Error(d.Loose(slow), d.Loose(fast))
	}
	d, e = chunk.New(a, b, 1)
	is(t, "New", e, api.OK)
	is(t, "Write", b.Write(255, secs("abcd")), api.OK)
	if d.Loose(slow) != 3 || d.Loose(fast) != 4 {
		t.Error(d.Loose(slow), d.Loose(fast))
	}
}

// P18.1, rule 5: of nil.

func TestNil(t *testing.T) {
	var d *chunk.Deck
	if d.Size() != 0 {
		t.Error(d.Size())
	}
	for _, n := range append(ends(), 0, 1, 2) {
		if d.Slots(n) != 0 || d.Loose(n) != 0 {
			t.Error(n, d.Slots(n), d.Loose(n))
		}
		is(t, "Flush", d.Flush(n), api.ErrNil)
		for _, s := range []api.Spot{{Tier: n}, {Slot: n}, {Tier: fast, Slot: n}} {
			text, e := d.Read(s, n, n)
			if text != "" {
				t.Error(text)
			}
			is(t, "Read", e, api.ErrNil)
			is(t, "Write", d.Write(s, n, ""), api.ErrNil)
			is(t, "Write", d.Write(s, n, "x"), api.ErrNil)
			is(t, "Write", d.Write(s, n, secs("x")), api.ErrNil)
			is(t, "Copy", d.Copy(s, s), api.ErrNil)
			is(t, "Zero", d.Zero(s), api.ErrNil)
		}
	}
}

// P18.2: Read.

func TestReadOfEachRange(t *testing.T) {
	for size := 1; size <= maxChunk; size++ {
		r := whole(t, 3*size+size/2, 2*size, size)
		for _, s := range append(r.all(), r.wrong()...) {
			for at := -2; at <= 10; at++ {
				for n := -2; n <= 10; n++ {
					r.reads(t, s, at, n)
				}
			}
		}
		used(t, r.power[slow], 0)
		used(t, r.power[fast], 0)
	}
}

func TestReadOfEndsOfNumbers(t *testing.T) {
	r := whole(t, 11, 6, 3)
	some := append(ends(), 0, 1, 3, 4)
	for _, s := range []api.Spot{down(0), down(2), up(1), up(2), {Tier: 2}} {
		for _, at := range some {
			for _, n := range some {
				r.reads(t, s, at, n)
			}
		}
	}
}

func TestReadOfNothing(t *testing.T) {
	r := whole(t, 9, 6, 3)
	for _, s := range r.all() {
		for at := range 4 {
			r.reads(t, s, at, 0) // the end of the device's last chunk too
		}
	}
}

// A device tells of its power whatever is read, but not ahead of what is wrong with the arguments.
func TestReadWithoutPower(t *testing.T) {
	r := whole(t, 11, 6, 3)
	r.power[slow].Cut()
	for _, s := range append(r.all(), r.wrong()...) {
		for at := -1; at <= 4; at++ {
			for n := -1; n <= 4; n++ {
				r.reads(t, s, at, n)
			}
		}
	}
	if _, e := r.deck.Read(down(2), 3, 0); e != api.ErrDown {
		t.Error(e)
	}
	if _, e := r.deck.Read(up(1), 0, 3); e != api.OK {
		t.Error(e)
	}
}

// P18.2: Write.

func TestWriteOfEachRange(t *testing.T) {
	for size := 1; size <= maxChunk; size++ {
		chance := rand.New(rand.NewSource(int64(size)))
		r := whole(t, 3*size+size/2, 2*size, size)
		for _, s := range append(r.all(), r.wrong()...) {
			for at := -2; at <= 10; at++ {
				for n := range 11 {
					r.writes(t, s, at, whichever(n, chance))
				}
			}
			r.holds(t)
		}
	}
}

func TestWriteOfEndsOfNumbers(t *testing.T) {
	r := whole(t, 11, 6, 3)
	for _, s := range []api.Spot{down(0), down(2), up(1)} {
		for _, at := range ends() {
			for _, text := range []string{"", secs("a"), secs("abc"), secs("abcd")} {
				r.writes(t, s, at, text)
			}
		}
	}
	r.holds(t)
	used(t, r.power[slow], 0)
	used(t, r.power[fast], 0)
}

func TestWriteOfNothing(t *testing.T) {
	r := whole(t, 9, 6, 3)
	for _, s := range r.all() {
		for at := -1; at <= 4; at++ {
			r.writes(t, s, at, "")
		}
	}
	r.holds(t)
	used(t, r.power[slow], 0)
	is(t, "Write", r.deck.Write(down(2), 3, ""), api.OK)
	is(t, "Write", r.deck.Write(down(2), 4, ""), api.ErrRange)
}

// What is wrong with the bytes is named ahead of what is wrong with the place.
func TestWriteOfPartsOfSectors(t *testing.T) {
	r := whole(t, 11, 6, 3)
	for n := range 100 {
		for _, at := range []int{math.MinInt, -1, 0, 1, 3, 4, math.MaxInt} {
			r.writes(t, up(1), at, strings.Repeat("x", n))
		}
	}
	r.holds(t)
	for _, at := range []int{-1, 0, 3, 4} {
		is(t, "Write", r.deck.Write(down(0), at, secs("abcd")+"x"), api.ErrArg)
	}
}

func TestWriteWithoutPower(t *testing.T) {
	r := whole(t, 11, 6, 3)
	r.power[fast].Cut()
	is(t, "Write", r.deck.Write(up(0), 0, secs("a")), api.ErrDown)
	is(t, "Write", r.deck.Write(up(0), 0, "a"), api.ErrArg)
	is(t, "Write", r.deck.Write(up(2), 0, secs("a")), api.ErrArg)
	is(t, "Write", r.deck.Write(up(0), 3, secs("a")), api.ErrRange)
	is(t, "Write", r.deck.Write(up(0), 0, secs("abcd")), api.ErrRange)
	r.writes(t, down(0), 0, secs("a")) // the other device has its power
	r.power[fast].Come()
	r.holds(t)
}

func TestWriteWhilePowerGoes(t *testing.T) {
	for fuse := range 3 {
		r := whole(t, 11, 8, 4)
		r.power[fast].Fuse(fuse)
		is(t, "Write", r.deck.Write(up(1), 1, secs("abc")), api.ErrDown)
		r.note(up(1), 1, secs("abc")[:fuse*sectorSize])
		r.power[fast].Come()
		r.holds(t)
		used(t, r.power[fast], fuse)
	}
}

func TestWriteUsesThePowerOfItsTier(t *testing.T) {
	r := whole(t, 11, 6, 3)
	r.writes(t, down(2), 1, secs("ab"))
	used(t, r.power[slow], 2)
	used(t, r.power[fast], 0)
	r.writes(t, up(0), 0, secs("abc"))
	used(t, r.power[slow], 2)
	used(t, r.power[fast], 3)
}

// P18.2: Copy.

func TestCopyOfEachPair(t *testing.T) {
	for size := 1; size <= maxChunk; size++ {
		chance := rand.New(rand.NewSource(int64(size)))
		r := whole(t, 4*size+size-1, 3*size, size)
		for _, from := range r.all() {
			for _, to := range r.all() {
				r.writes(t, from, 0, whichever(size, chance))
				r.copies(t, from, to)
				r.holds(t)
			}
		}
	}
}

func TestCopyOfWrongSpots(t *testing.T) {
	r := whole(t, 11, 6, 3)
	for _, s := range r.wrong() {
		for _, good := range r.all() {
			r.copies(t, good, s)
			r.copies(t, s, good)
		}
		r.copies(t, s, s)
	}
	r.holds(t)
	r.power[slow].Cut()
	r.power[fast].Cut()
	is(t, "Copy", r.deck.Copy(down(3), up(0)), api.ErrArg)
	is(t, "Copy", r.deck.Copy(down(0), up(2)), api.ErrArg)
	is(t, "Copy", r.deck.Copy(down(0), up(1)), api.ErrDown)
}

// A chunk that is copied to where it is, is written there.
func TestCopyToItself(t *testing.T) {
	r := whole(t, 11, 6, 3)
	r.copies(t, down(1), down(1))
	r.holds(t)
	used(t, r.power[slow], 3)
}

func TestCopyUsesThePowerWhereItGoes(t *testing.T) {
	r := whole(t, 11, 6, 3)
	r.copies(t, down(2), up(1))
	used(t, r.power[slow], 0)
	used(t, r.power[fast], 3)
	r.copies(t, up(1), down(0))
	used(t, r.power[slow], 3)
	used(t, r.power[fast], 3)
}

func TestCopyWithoutOnePower(t *testing.T) {
	for gone := range 2 {
		r := whole(t, 11, 6, 3)
		r.power[gone].Cut()
		is(t, "Copy", r.deck.Copy(down(0), up(0)), api.ErrDown)
		is(t, "Copy", r.deck.Copy(up(0), down(0)), api.ErrDown)
		r.copies(t, api.Spot{Tier: 1 - gone}, api.Spot{Tier: 1 - gone, Slot: 1})
		r.power[gone].Come()
		r.holds(t)
	}
}

func TestCopyWhilePowerGoes(t *testing.T) {
	for fuse := range 5 {
		r := whole(t, 17, 10, 5)
		r.power[fast].Fuse(fuse)
		is(t, "Copy", r.deck.Copy(down(2), up(1)), api.ErrDown)
		r.note(up(1), 0, r.sectors(down(2), 0, fuse))
		r.power[fast].Come()
		r.holds(t)
	}
}

// P18.2: Zero.

func TestZeroOfEachChunk(t *testing.T) {
	for size := 1; size <= maxChunk; size++ {
		r := whole(t, 4*size+size-1, 3*size, size)
		for _, s := range append(r.wrong(), r.all()...) {
			r.clears(t, s)
			r.holds(t)
		}
		used(t, r.power[slow], 4*size)
		used(t, r.power[fast], 3*size)
	}
}

func TestZeroWithoutPower(t *testing.T) {
	r := whole(t, 17, 10, 5)
	r.power[slow].Cut()
	is(t, "Zero", r.deck.Zero(down(0)), api.ErrDown)
	is(t, "Zero", r.deck.Zero(down(3)), api.ErrArg)
	r.clears(t, up(1))
	r.power[slow].Come()
	r.holds(t)
	for fuse := range 5 {
		r.power[slow].Fuse(fuse)
		is(t, "Zero", r.deck.Zero(down(fuse%3)), api.ErrDown)
		r.note(down(fuse%3), 0, zeros(fuse))
		r.power[slow].Come()
		r.holds(t)
	}
}

// P18.2: Flush.

func TestFlushOfEachTier(t *testing.T) {
	for tier := range 2 {
		r := whole(t, 11, 6, 3)
		for _, s := range r.all() {
			r.writes(t, s, 1, secs("ab"))
		}
		r.flushes(t, tier)
		r.holds(t)
		used(t, r.power[tier], 2*r.slots(tier)+1)
		used(t, r.power[1-tier], 2*r.slots(1-tier))
		if r.deck.Loose(tier) != 0 || r.deck.Loose(1-tier) != 2*r.slots(1-tier) || r.device[tier].Image() != r.now[tier] {
			t.Errorf("tier %d: %d, %d are loose", tier, r.deck.Loose(tier), r.deck.Loose(1-tier))
		}
	}
}

func TestFlushOfNoTier(t *testing.T) {
	r := whole(t, 11, 6, 3)
	r.writes(t, down(0), 0, secs("a"))
	r.writes(t, up(0), 0, secs("a"))
	for _, tier := range append(ends(), 2, 3, 256, 257) {
		r.flushes(t, tier)
	}
	r.holds(t)
	r.power[slow].Cut()
	r.power[fast].Cut()
	is(t, "Flush", r.deck.Flush(2), api.ErrArg)
	is(t, "Flush", r.deck.Flush(-1), api.ErrArg)
}

func TestFlushWhilePowerGoes(t *testing.T) {
	r := whole(t, 11, 6, 3)
	r.writes(t, down(0), 0, secs("a"))
	r.writes(t, up(0), 0, secs("ab"))
	r.power[fast].Fuse(0)
	is(t, "Flush", r.deck.Flush(fast), api.ErrDown)
	is(t, "Flush", r.deck.Flush(fast), api.ErrDown)
	r.holds(t)
	r.flushes(t, slow)
	r.holds(t)
}

// What was flushed stays, what wasn't is lost: the deck keeps nothing of it.
func TestWhatWasntFlushedIsLost(t *testing.T) {
	r := whole(t, 11, 6, 3)
	r.writes(t, up(1), 0, secs("abc"))
	r.flushes(t, fast)
	safe := r.now
	r.writes(t, up(1), 1, secs("x"))
	r.writes(t, down(2), 1, secs("y"))
	r.lose(t, slow, false, safe[slow])
	r.lose(t, fast, false, safe[fast])
	r.holds(t)
	for _, s := range r.all() {
		r.reads(t, s, 0, 3)
	}
}

// A device that has no power at all has errors of its own.
func TestDevicesErrors(t *testing.T) {
	a, b := disc.New(nil, 4), disc.New(mains.New(), 4)
	d, e := chunk.New(a, b, 2)
	is(t, "New", e, api.OK)
	_, want := a.Read(0, 1)
	_, e = d.Read(down(1), 0, 1)
	is(t, "Read", e, want)
	is(t, "Copy", d.Copy(down(1), up(1)), want)
	want = a.Write(0, secs("x"))
	is(t, "Write", d.Write(down(1), 0, secs("x")), want)
	is(t, "Zero", d.Zero(down(1)), want)
	is(t, "Copy", d.Copy(up(1), down(1)), want)
	is(t, "Flush", d.Flush(slow), a.Flush())
}

// P18.2: what the device has is what the chunk has.

func TestChunksAreTheDevicesSectors(t *testing.T) {
	m := mains.New()
	a, b := disc.New(m, 17), disc.New(m, 9)
	d, e := chunk.New(a, b, 2)
	is(t, "New", e, api.OK)
	is(t, "Write", d.Write(down(3), 0, secs("67")), api.OK)
	if s, e := a.Read(5, 4); e != api.OK || s != secs("\x0067\x00") {
		t.Errorf("%q, %d", short(s), e)
	}
	is(t, "Write", b.Write(6, secs("xy")), api.OK)
	if s, e := d.Read(up(3), 0, 2); e != api.OK || s != secs("xy") {
		t.Errorf("%q, %d", short(s), e)
	}
	if s, e := d.Read(up(3), 1, 1); e != api.OK || s != secs("y") {
		t.Errorf("%q, %d", short(s), e)
	}
}

// Two decks over the same devices keep nothing for themselves.
func TestTwoDecksOfTheSameDevices(t *testing.T) {
	r := whole(t, 12, 12, 3)
	other, e := chunk.New(r.device[slow], r.device[fast], 4)
	is(t, "New", e, api.OK)
	is(t, "Write", other.Write(down(1), 1, secs("abc")), api.OK)
	r.note(down(1), 2, secs("a"))
	r.note(down(2), 0, secs("bc"))
	r.holds(t)
	is(t, "Copy", other.Copy(down(0), up(1)), api.OK)
	r.note(up(1), 1, r.sectors(down(0), 0, 3)[:2*sectorSize])
	r.note(up(2), 0, r.sectors(down(0), 2, 1)+r.sectors(down(1), 0, 1))
	r.holds(t)
	is(t, "Flush", other.Flush(fast), api.OK)
	clear(r.loose[fast])
	r.holds(t)
}

// The slots that stand behind the last one that can be, on devices with more room than that.
func TestSlotsAtTheMost(t *testing.T) {
	for _, size := range []int{1, 7, 8} {
		r := whole(t, maxSlots*size+2*size, maxSlots*size, size)
		for tier := range 2 {
			last, beyond := api.Spot{Tier: tier, Slot: maxSlots - 1}, api.Spot{Tier: tier, Slot: maxSlots}
			r.writes(t, last, size-1, secs("z"))
			r.reads(t, last, 0, size)
			r.copies(t, last, api.Spot{Tier: 1 - tier})
			r.writes(t, beyond, 0, secs("z"))
			r.reads(t, beyond, 0, 1)
			r.copies(t, last, beyond)
			r.copies(t, beyond, last)
			r.clears(t, beyond)
			r.clears(t, last)
		}
		r.holds(t)
	}
}

// P18.3: what is done to one chunk.

// othersStay fails the test, if a chunk but that one has changed since.
func othersStay(t *testing.T, r *rig, but api.Spot, was map[api.Spot]string) {
	t.Helper()
	for _, s := range r.all() {
		got, e := r.deck.Read(s, 0, r.size)
		if s != but && (e != api.OK || got != was[s]) {
			t.Fatalf("%v was changed with %v", s, but)
		}
	}
}

// contents answers what each chunk has.
func contents(t *testing.T, r *rig) map[api.Spot]string {
	t.Helper()
	out := map[api.Spot]string{}
	for _, s := range r.all() {
		text, e := r.deck.Read(s, 0, r.size)
		is(t, "Read", e, api.OK)
		out[s] = text
	}
	return out
}

func TestNoOtherChunkChanges(t *testing.T) {
	for size := 1; size <= maxChunk; size++ {
		chance := rand.New(rand.NewSource(int64(size)))
		r := whole(t, 6*size, 5*size+size-1, size)
		for _, s := range r.all() {
			was := contents(t, r)
			is(t, "Write", r.deck.Write(s, 0, whichever(size, chance)), api.OK)
			othersStay(t, r, s, was)
			is(t, "Write", r.deck.Write(s, size-1, secs("e")), api.OK)
			othersStay(t, r, s, was)
			is(t, "Write", r.deck.Write(s, size, ""), api.OK)
			is(t, "Copy", r.deck.Copy(api.Spot{Tier: 1 - s.Tier, Slot: 2}, s), api.OK)
			othersStay(t, r, s, was)
			is(t, "Zero", r.deck.Zero(s), api.OK)
			is(t, "Flush", r.deck.Flush(s.Tier), api.OK)
			othersStay(t, r, s, was)
		}
	}
}

// Each chunk of a full deck has bytes of its own.
func TestAllChunksApart(t *testing.T) {
	for _, size := range []int{1, 3, maxChunk} {
		chance := rand.New(rand.NewSource(int64(size)))
		r := whole(t, maxSlots*size, 100*size, size)
		want := map[api.Spot]string{}
		for _, s := range r.all() {
			want[s] = whichever(size, chance)
			is(t, "Write", r.deck.Write(s, 0, want[s]), api.OK)
		}
		if len(want) != maxSlots+100 {
			t.Error(len(want))
		}
		othersStay(t, r, api.Spot{Tier: 2}, want)
	}
}

// Rows of calls of all kinds, of spots that are and that aren't.
func TestRowsOfCalls(t *testing.T) {
	chance := rand.New(rand.NewSource(18))
	for range 60 {
		size := 1 + chance.Intn(maxChunk)
		r := whole(t, size+chance.Intn(40), size+chance.Intn(20), size)
		one := func() api.Spot { return api.Spot{Tier: chance.Intn(9) / 4, Slot: chance.Intn(8) - 1} }
		for range 200 {
			switch chance.Intn(12) {
			case 0, 1, 2:
				r.writes(t, one(), chance.Intn(size+3)-1, whichever(chance.Intn(size+2), chance))
			case 3, 4, 5:
				r.copies(t, one(), one())
			case 6, 7:
				r.clears(t, one())
			case 8:
				r.flushes(t, chance.Intn(4)-1)
			default:
				r.reads(t, one(), chance.Intn(size+3)-1, chance.Intn(size+3)-1)
			}
			r.holds(t)
		}
	}
}

// lose lets the power of a tier go and come again; what wasn't flushed stays, or is what it was in safe.
func (r *rig) lose(t *testing.T, tier int, stays bool, safe string) {
	t.Helper()
	keep := ""
	if stays {
		keep = "\xff"
	} else {
		r.now[tier] = safe
	}
	clear(r.loose[tier])
	r.power[tier].Cut()
	is(t, "Settle", r.device[tier].Settle(keep), api.OK)
	r.power[tier].Come()
}

// Rows of writes, flushes and losses of power: each chunk has what its device has.
func TestRowsWithLosses(t *testing.T) {
	chance := rand.New(rand.NewSource(183))
	r := whole(t, 22, 13, 3)
	safe := r.now
	for range 1000 {
		tier := chance.Intn(2)
		s := api.Spot{Tier: tier, Slot: chance.Intn(r.slots(tier))}
		switch chance.Intn(6) {
		case 0:
			r.flushes(t, tier)
			safe[tier] = r.now[tier]
		case 1:
			r.lose(t, tier, chance.Intn(2) == 0, safe[tier])
			safe[tier] = r.now[tier]
		case 2:
			r.copies(t, api.Spot{Tier: chance.Intn(2), Slot: chance.Intn(4)}, s)
		default:
			r.writes(t, s, chance.Intn(3), whichever(1, chance))
		}
		r.holds(t)
		r.reads(t, s, 0, 3)
	}
}

// Rule 7: a call that is wrong leaves all as it was, and uses no power.
func TestErrorsChangeNothing(t *testing.T) {
	r := whole(t, 11, 6, 3)
	for _, s := range r.wrong() {
		r.reads(t, s, 0, 1)
		r.writes(t, s, 0, secs("x"))
		r.writes(t, s, 0, "")
		r.writes(t, s, -1, "x")
		r.clears(t, s)
		r.copies(t, s, down(0))
		r.copies(t, up(0), s)
	}
	for _, s := range r.all() {
		r.writes(t, s, 0, secs("abcd"))
		r.writes(t, s, 3, secs("a"))
		r.writes(t, s, -1, secs("ab"))
		r.writes(t, s, 0, "abc")
	}
	r.holds(t)
	used(t, r.power[slow], 0)
	used(t, r.power[fast], 0)
}
