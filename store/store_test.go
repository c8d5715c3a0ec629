package store_test

import (
	"encoding/binary"
	"hash/crc32"
	"math"
	"math/rand"
	"slices"
	"strings"
	"testing"

	"tierce/api"
	"tierce/disc"
	"tierce/mains"
	"tierce/store"
)

// Helpers: heads' sectors and nodes' pages as the chapters have them, made without the layers below.

// sealed answers text with its sum behind it.
func sealed(text string) string {
	sum := crc32.Checksum([]byte(text), crc32.MakeTable(crc32.Castagnoli))
	return string(binary.LittleEndian.AppendUint32([]byte(text), sum))
}

// sectorFor answers the sector of a head.
func sectorFor(h api.Head) string {
	b := []byte{0x54, byte(h.Chunk)}
	b = binary.LittleEndian.AppendUint16(b, uint16(h.Slots[0]))
	b = binary.LittleEndian.AppendUint16(b, uint16(h.Slots[1]))
	b = binary.LittleEndian.AppendUint32(b, uint32(h.Gen))
	b = binary.LittleEndian.AppendUint16(b, uint16(h.Root))
	return sealed(string(b))
}

// pageFor answers the page of a node.
func pageFor(l api.Leaf) string {
	b := []byte{0x4C, byte(l.Level), byte(len(l.List)), 0}
	for _, p := range l.List {
		b = binary.LittleEndian.AppendUint64(b, p.Key)
		b = binary.LittleEndian.AppendUint64(b, p.Val)
	}
	return sealed(string(b) + zeros(252-len(b)))
}

func zeros(n int) string { return strings.Repeat("\x00", n) }

// node answers a node that is told from others by n.
func node(n int) api.Leaf {
	return api.Leaf{List: []api.Pair{{Key: uint64(n), Val: uint64(n) << 33}}}
}

// same tells whether two nodes are the same, lists of nothing too.
func same(a, b api.Leaf) bool {
	return a.Level == b.Level && slices.Equal(a.List, b.List)
}

var tiers = [2]int{5, 2}

// plain answers a head with these tiers and a chunk of 3 sectors.
func plain(gen uint64, root int) api.Head {
	return api.Head{Gen: gen, Root: root, Slots: tiers, Chunk: 3}
}

// made answers a device with so many pages, formatted, and its store.
func made(t *testing.T, pages int) (*mains.Mains, *disc.Disc, *store.Store) {
	t.Helper()
	m := mains.New()
	d := disc.New(m, pages*16)
	s, e := store.Format(d, tiers, 3)
	if e != api.OK {
		t.Fatal(e)
	}
	return m, d, s
}

// opened answers the store that stands on a device.
func opened(t *testing.T, d *disc.Disc) *store.Store {
	t.Helper()
	s, e := store.Open(d)
	if e != api.OK {
		t.Fatal(e)
	}
	return s
}

// adds fails the test, unless Add of a node answers a page.
func adds(t *testing.T, s *store.Store, l api.Leaf, want int) {
	t.Helper()
	if p, e := s.Add(l); p != want || e != api.OK {
		t.Errorf("Add(%v) = %d, %d; want %d", l, p, e, want)
	}
}

// addsNot fails the test, unless Add of a node answers an error.
func addsNot(t *testing.T, s *store.Store, l api.Leaf, want api.Errno) {
	t.Helper()
	if p, e := s.Add(l); p != 0 || e != want {
		t.Errorf("Add(%v) = %d, %d; want 0, %d", l, p, e, want)
	}
}

// reads fails the test, unless the node of a page is want.
func reads(t *testing.T, s *store.Store, page int, want api.Leaf) {
	t.Helper()
	if l, e := s.Read(page); !same(l, want) || e != api.OK {
		t.Errorf("Read(%d) = %v, %d; want %v", page, l, e, want)
	}
}

// readsNot fails the test, unless Read of a page answers an error.
func readsNot(t *testing.T, s *store.Store, page int, want api.Errno) {
	t.Helper()
	if l, e := s.Read(page); l.Level != 0 || len(l.List) != 0 || e != want {
		t.Errorf("Read(%d) = %v, %d; want nothing, %d", page, l, e, want)
	}
}

// commits fails the test, unless Commit answers want.
func commits(t *testing.T, s *store.Store, want api.Errno, root int, pages ...int) {
	t.Helper()
	if e := s.Commit(root, pages...); e != want {
		t.Errorf("Commit(%d, %v) = %d; want %d", root, pages, e, want)
	}
}

// has fails the test, unless s has this head, and so many pages that are free and new.
func has(t *testing.T, s *store.Store, h api.Head, free, fresh int) {
	t.Helper()
	if s.Head() != h || s.Free() != free || s.Fresh() != fresh {
		t.Errorf("%v, %d free, %d new; want %v, %d, %d", s.Head(), s.Free(), s.Fresh(), h, free, fresh)
	}
}

// heads fails the test, unless the sectors 0 and 1 of d are these, and safe.
func heads(t *testing.T, d *disc.Disc, zero, one string) {
	t.Helper()
	if s := d.Image()[:32]; s != zero+one {
		t.Errorf("sectors %q; want %q", s, zero+one)
	}
}

// lose lets the power go, with what keep tells staying, and come again.
func lose(m *mains.Mains, d *disc.Disc, keep string) {
	m.Cut()
	d.Settle(keep)
	m.Come()
}

// P7.1: Format.

func TestFormatOfADevice(t *testing.T) {
	m := mains.New()
	d := disc.New(m, 6*16)
	d.Write(0, strings.Repeat("x", 6*256))
	d.Flush()
	before := m.Uses()
	s, e := store.Format(d, [2]int{256, 7}, 8)
	h := api.Head{Gen: 1, Slots: [2]int{256, 7}, Chunk: 8}
	if e != api.OK || s.Pages() != 6 {
		t.Fatal(s.Pages(), e)
	}
	has(t, s, h, 5, 0)
	if want := sectorFor(h) + zeros(16) + strings.Repeat("x", 6*256-32); d.Image() != want {
		t.Errorf("%q", d.Image())
	}
	if m.Uses()-before != 3 || len(d.Loose()) != 0 {
		t.Error(m.Uses()-before, d.Loose())
	}
}

func TestFormatOfNoDevice(t *testing.T) {
	for _, slots := range [][2]int{tiers, {0, 0}} {
		if s, e := store.Format(nil, slots, 3); s != nil || e != api.ErrNil {
			t.Error(s, e)
		}
	}
}

func TestFormatOfHeadsThatCannotBe(t *testing.T) {
	for _, c := range []struct {
		slots [2]int
		chunk int
		want  api.Errno
	}{
		{[2]int{1, 1}, 1, api.OK},
		{[2]int{256, 256}, 8, api.OK},
		{[2]int{0, 1}, 1, api.ErrArg},
		{[2]int{1, 0}, 1, api.ErrArg},
		{[2]int{257, 1}, 1, api.ErrArg},
		{[2]int{1, 257}, 1, api.ErrArg},
		{[2]int{1, 1}, 0, api.ErrArg},
		{[2]int{1, 1}, 9, api.ErrArg},
		{[2]int{-1, -1}, -1, api.ErrArg},
		{[2]int{math.MaxInt, 1}, 1, api.ErrArg},
		{[2]int{1, math.MinInt}, 1, api.ErrArg},
		{[2]int{1, 1}, math.MinInt, api.ErrArg},
		{[2]int{1, 1}, 257, api.ErrArg},
	} {
		m := mains.New()
		d := disc.New(m, 64)
		s, e := store.Format(d, c.slots, c.chunk)
		if e != c.want || (s == nil) != (e != api.OK) {
			t.Error(c, s, e)
		}
		if e != api.OK && (m.Uses() != 0 || d.Image() != zeros(64*16)) {
			t.Error(c, m.Uses())
		}
		if e == api.OK && (s.Head() != api.Head{Gen: 1, Slots: c.slots, Chunk: c.chunk}) {
			t.Error(c, s.Head())
		}
	}
}

func TestPagesOfADevice(t *testing.T) {
	for _, c := range []struct{ sectors, pages int }{
		{0, 0}, {1, 0}, {2, 0}, {16, 0}, {17, 0}, {31, 0}, {32, 2}, {33, 2}, {47, 2}, {48, 3}, {49, 3},
		{511 * 16, 511}, {512*16 - 1, 511}, {512 * 16, 512}, {512*16 + 1, 512}, {513 * 16, 512}, {1 << 14, 512},
	} {
		d := disc.New(mains.New(), c.sectors)
		s, e := store.Format(d, tiers, 3)
		if c.pages == 0 {
			if s != nil || e != api.ErrArg {
				t.Error(c, s, e)
			}
			continue
		}
		if e != api.OK || s.Pages() != c.pages {
			t.Error(c, s.Pages(), e)
		}
		has(t, s, plain(1, 0), c.pages-1, 0)
		has(t, opened(t, d), plain(1, 0), c.pages-1, 0)
		if n := opened(t, d).Pages(); n != c.pages {
			t.Error(c, n)
		}
	}
}

func TestFormatWhenThePowerGoes(t *testing.T) {
	old := strings.Repeat("o", 16)
	for fuse, want := range []struct{ zero, one string }{{old, old}, {sectorFor(plain(1, 0)), old}, {sectorFor(plain(1, 0)), zeros(16)}} {
		m := mains.New()
		d := disc.Of(m, strings.Repeat(old, 64))
		m.Fuse(fuse)
		if s, e := store.Format(d, tiers, 3); s != nil || e != api.ErrDown {
			t.Error(fuse, s, e)
		}
		lose(m, d, "\xff")
		heads(t, d, want.zero, want.one)
	}
	m := mains.New()
	m.Cut()
	if s, e := store.Format(disc.New(m, 64), tiers, 3); s != nil || e != api.ErrDown {
		t.Error(s, e)
	}
	if s, e := store.Format(disc.New(m, 31), tiers, 3); s != nil || e != api.ErrArg {
		t.Error(s, e)
	}
}

// A device that had many commits has none of them behind a Format.
func TestFormatAnew(t *testing.T) {
	for commitsDone := range 4 {
		_, d, s := made(t, 4)
		for i := range commitsDone {
			adds(t, s, node(i), i%2+1)
			commits(t, s, api.OK, i%2+1, i%2+1)
		}
		if _, e := store.Format(d, [2]int{9, 9}, 1); e != api.OK {
			t.Fatal(e)
		}
		h := api.Head{Gen: 1, Slots: [2]int{9, 9}, Chunk: 1}
		heads(t, d, sectorFor(h), zeros(16))
		has(t, opened(t, d), h, 3, 0)
	}
}

// P7.1: Open.

// deviceWith answers a device whose sectors 0 and 1 are these.
func deviceWith(m *mains.Mains, zero, one string) *disc.Disc {
	return disc.Of(m, zero+one+zeros(62*16))
}

func TestOpenTakesTheNewestHead(t *testing.T) {
	low, high := plain(7, 2), api.Head{Gen: 1<<32 - 2, Root: 511, Slots: [2]int{8, 9}, Chunk: 1}
	for _, c := range []struct {
		zero, one string
		want      api.Head
		next      int // the sector to which the next head goes
	}{
		{sectorFor(low), zeros(16), low, 1},
		{zeros(16), sectorFor(low), low, 0},
		{sectorFor(low), sectorFor(high), high, 0},
		{sectorFor(high), sectorFor(low), high, 1},
		{sectorFor(low), sectorFor(plain(7, 3)), low, 1},
		{sectorFor(plain(8, 0)), sectorFor(high)[:15] + "?", plain(8, 0), 1},
		{"?" + sectorFor(high)[1:], sectorFor(plain(8, 0)), plain(8, 0), 0},
	} {
		m := mains.New()
		d := deviceWith(m, c.zero, c.one)
		s := opened(t, d)
		has(t, s, c.want, 3, 0)
		if s.Pages() != 4 || m.Uses() != 0 {
			t.Error(s.Pages(), m.Uses())
		}
		commits(t, s, api.OK, 0)
		next := c.want
		next.Gen++
		next.Root = 0
		now := []string{c.zero, c.one}
		now[c.next] = sectorFor(next)
		heads(t, d, now[0], now[1])
	}
}

func TestOpenOfNoHead(t *testing.T) {
	m := mains.New()
	spoilt := plain(0, 0)
	for _, d := range []*disc.Disc{
		disc.New(m, 64),
		disc.New(m, 0),
		disc.New(m, 1),
		disc.New(m, 31),
		disc.Of(m, sectorFor(plain(1, 0))+zeros(30*16)),
		disc.Of(m, sectorFor(plain(1, 0))),
		disc.Of(m, zeros(32)+sectorFor(plain(1, 0))+zeros(61*16)),
		deviceWith(m, sectorFor(spoilt), sectorFor(spoilt)),
		deviceWith(m, strings.Repeat("\xff", 16), "T"+zeros(15)),
	} {
		if s, e := store.Open(d); s != nil || e != api.ErrForm {
			t.Error(d.Len(), s, e)
		}
	}
}

func TestOpenOfNoDeviceAndWithoutPower(t *testing.T) {
	if s, e := store.Open(nil); s != nil || e != api.ErrNil {
		t.Error(s, e)
	}
	m := mains.New()
	m.Cut()
	if s, e := store.Open(deviceWith(m, sectorFor(plain(1, 0)), zeros(16))); s != nil || e != api.ErrDown {
		t.Error(s, e)
	}
	if s, e := store.Open(disc.New(m, 64)); s != nil || e != api.ErrDown {
		t.Error(s, e)
	}
	if s, e := store.Open(disc.New(m, 31)); s != nil || e != api.ErrForm {
		t.Error(s, e)
	}
}

// What is committed is for Keep to tell.
func TestOpenKnowsOfNoCommittedPage(t *testing.T) {
	_, d, s := made(t, 5)
	adds(t, s, node(1), 1)
	adds(t, s, node(2), 2)
	commits(t, s, api.OK, 2, 1, 2)
	has(t, s, plain(2, 2), 2, 0)
	s = opened(t, d)
	has(t, s, plain(2, 2), 4, 0)
	s.Keep(1, 2)
	has(t, s, plain(2, 2), 2, 0)
	adds(t, s, node(3), 3)
}

func TestOfNoStore(t *testing.T) {
	var s *store.Store
	has(t, s, api.Head{}, 0, 0)
	if s.Pages() != 0 {
		t.Error(s.Pages())
	}
	s.Keep(1)
	s.Sweep(1)
	readsNot(t, s, 1, api.ErrNil)
	readsNot(t, s, 0, api.ErrNil)
	addsNot(t, s, node(1), api.ErrNil)
	addsNot(t, s, api.Leaf{Level: -1}, api.ErrNil)
	commits(t, s, api.ErrNil, 0)
	commits(t, s, api.ErrNil, -1, 7)
}

// P7.2: Read.

func TestReadOfOtherPages(t *testing.T) {
	m, _, s := made(t, 6)
	adds(t, s, node(1), 1)
	for range 2 {
		for _, p := range []int{0, 6, -1, -6, 7, 511, 512, 1 << 20, 1<<32 + 1, math.MinInt, math.MaxInt, math.MaxInt/16 + 2, math.MinInt/16 + 1} {
			readsNot(t, s, p, api.ErrRange)
		}
		m.Cut()
	}
}

func TestReadOfWhatStandsOnTheDevice(t *testing.T) {
	m := mains.New()
	l := api.Leaf{Level: 2, List: []api.Pair{{Key: 1, Val: 5}, {Key: 9, Val: 511}}}
	page := pageFor(l)
	d := disc.Of(m, sectorFor(plain(3, 1))+zeros(15*16)+page+page[:255]+"?"+zeros(256)+page+page[:240])
	s := opened(t, d)
	if s.Pages() != 5 {
		t.Fatal(s.Pages())
	}
	for range 2 {
		reads(t, s, 1, l)
		readsNot(t, s, 2, api.ErrForm)
		readsNot(t, s, 3, api.ErrForm)
		reads(t, s, 4, l)
		readsNot(t, s, 5, api.ErrRange)
		s.Keep(1, 2, 3)
	}
	m.Cut()
	readsNot(t, s, 1, api.ErrDown)
	readsNot(t, s, 2, api.ErrDown)
}

// What is new is read from memory: no power is used for it, and none needed.
func TestReadOfANewPage(t *testing.T) {
	m, d, s := made(t, 4)
	before := m.Uses()
	l := api.Leaf{Level: 7, List: []api.Pair{{Key: 0, Val: 1}, {Key: math.MaxUint64, Val: 511}}}
	adds(t, s, l, 1)
	adds(t, s, api.Leaf{}, 2)
	reads(t, s, 1, l)
	reads(t, s, 2, api.Leaf{})
	readsNot(t, s, 3, api.ErrForm)
	if m.Uses() != before || len(d.Loose()) != 0 || d.Image()[32:] != zeros(62*16) {
		t.Error("an added page is on the device")
	}
	m.Cut()
	reads(t, s, 1, l)
	readsNot(t, s, 3, api.ErrDown)
}

// The chapter's example.
func TestAPageThatWasAddedIsLostUnlessItIsCommitted(t *testing.T) {
	m, d, s := made(t, 4)
	adds(t, s, node(1), 1)
	commits(t, s, api.OK, 1, 1)
	adds(t, s, node(2), 2)
	reads(t, s, 2, node(2))
	lose(m, d, "\xff")
	s = opened(t, d)
	has(t, s, plain(2, 1), 3, 0)
	reads(t, s, 1, node(1))
	readsNot(t, s, 2, api.ErrForm)
}

// P7.2: Add.

func TestAddTakesTheLowestFreePage(t *testing.T) {
	_, _, s := made(t, 7)
	s.Keep(1, 3)
	adds(t, s, node(0), 2)
	adds(t, s, node(1), 4)
	adds(t, s, node(2), 5)
	s.Sweep(2, 5)
	adds(t, s, node(3), 4)
	s.Keep(3)
	adds(t, s, node(4), 1)
	adds(t, s, node(5), 6)
	has(t, s, plain(1, 0), 0, 5)
	for p, n := range map[int]int{1: 4, 2: 0, 4: 3, 5: 2, 6: 5} {
		reads(t, s, p, node(n))
	}
}

func TestAddTillNoPageIsFree(t *testing.T) {
	for _, pages := range []int{2, 3, 511, 512, 700} {
		_, _, s := made(t, pages)
		most := min(pages, 512) - 1
		for i := range most {
			adds(t, s, node(i), i+1)
			has(t, s, plain(1, 0), most-i-1, i+1)
		}
		addsNot(t, s, node(7), api.ErrPages)
		addsNot(t, s, api.Leaf{Level: 8}, api.ErrArg)
		has(t, s, plain(1, 0), 0, most)
		for i := range most {
			reads(t, s, i+1, node(i))
		}
	}
}

func TestAddOfNodesThatCannotBe(t *testing.T) {
	_, _, s := made(t, 4)
	for _, l := range []api.Leaf{
		{Level: -1},
		{Level: 8},
		{Level: 1},
		{List: make([]api.Pair, 2)},
		{List: []api.Pair{{Key: 2}, {Key: 1}}},
		{Level: 1, List: []api.Pair{{}}},
		{Level: 1, List: []api.Pair{{Val: 512}}},
	} {
		addsNot(t, s, l, api.ErrArg)
	}
	long := api.Leaf{}
	for i := range 16 {
		long.List = append(long.List, api.Pair{Key: uint64(i)})
	}
	addsNot(t, s, long, api.ErrArg)
	has(t, s, plain(1, 0), 3, 0)
	long.List = long.List[:15]
	adds(t, s, long, 1)
	reads(t, s, 1, long)
}

// P7.2: Keep, Sweep.

func TestKeepTakesJustThePagesThatMayHoldANode(t *testing.T) {
	_, _, s := made(t, 6)
	s.Keep(0, 6, -1, 512, math.MinInt, math.MaxInt)
	has(t, s, plain(1, 0), 5, 0)
	s.Keep(5, 1, 5, 1, 0, 6)
	has(t, s, plain(1, 0), 3, 0)
	adds(t, s, node(1), 2)
	s.Keep(4)
	has(t, s, plain(1, 0), 3, 1)
	s.Keep()
	has(t, s, plain(1, 0), 4, 1)
	reads(t, s, 2, node(1))
}

// A new page that is kept isn't new any more: what is read is what the device has.
func TestKeepOfANewPage(t *testing.T) {
	m, d, s := made(t, 4)
	adds(t, s, node(1), 1)
	adds(t, s, node(2), 2)
	s.Keep(1)
	has(t, s, plain(1, 0), 1, 1)
	readsNot(t, s, 1, api.ErrForm)
	reads(t, s, 2, node(2))
	before := m.Uses()
	commits(t, s, api.OK, 1, 1)
	has(t, s, plain(2, 1), 2, 0)
	if m.Uses()-before != 3 || d.Image()[32:] != zeros(62*16) {
		t.Error("a kept page was written")
	}
}

func TestSweepOfNewPagesAlone(t *testing.T) {
	_, _, s := made(t, 8)
	s.Keep(2, 4)
	for i, p := range []int{1, 3, 5, 6} {
		adds(t, s, node(i), p)
	}
	s.Sweep(3, 6, 2, 7, 0, 8, -1, math.MinInt, math.MaxInt, 3)
	has(t, s, plain(1, 0), 3, 2)
	reads(t, s, 3, node(1))
	reads(t, s, 6, node(3))
	readsNot(t, s, 1, api.ErrForm)
	readsNot(t, s, 5, api.ErrForm)
	s.Sweep()
	has(t, s, plain(1, 0), 5, 0)
	commits(t, s, api.ErrArg, 0, 3)
	commits(t, s, api.OK, 0, 2, 4)
}

// P7.3.

func TestCommitWritesInOrder(t *testing.T) {
	m, d, s := made(t, 8)
	for i := range 6 {
		adds(t, s, node(i), i+1)
	}
	before := m.Uses()
	commits(t, s, api.OK, 4, 6, 2, 4, 2, 2)
	has(t, s, plain(2, 4), 4, 0)
	if m.Uses()-before != 3*16+1+1+1 {
		t.Error(m.Uses() - before)
	}
	want := sectorFor(plain(1, 0)) + sectorFor(plain(2, 4)) + zeros(14*16+256) +
		pageFor(node(1)) + zeros(256) + pageFor(node(3)) + zeros(256) + pageFor(node(5)) + zeros(256)
	if d.Image() != want || len(d.Loose()) != 0 {
		t.Errorf("%q", d.Image())
	}
	for i, p := range []int{2, 4, 6} {
		reads(t, s, p, node(2*i+1))
	}
	adds(t, s, node(9), 1)
	adds(t, s, node(9), 3)
	adds(t, s, node(9), 5)
	adds(t, s, node(9), 7)
	addsNot(t, s, node(9), api.ErrPages)
}

// looseAt answers what is loose, and what is safe, when a Commit of the pages 4, 1 and 3 ends behind so many uses.
func looseAt(t *testing.T, fuse int) ([]int, string, api.Errno) {
	m, d, s := made(t, 6)
	adds(t, s, node(1), 1)
	adds(t, s, node(2), 2)
	commits(t, s, api.OK, 2, 2)
	adds(t, s, node(3), 1)
	adds(t, s, node(4), 3)
	adds(t, s, node(5), 4)
	m.Fuse(fuse)
	e := s.Commit(4, 4, 2, 1, 3)
	return d.Loose(), d.Image(), e
}

func TestEachStepOfACommit(t *testing.T) {
	var sectors []int
	for _, p := range []int{1, 3, 4} {
		for i := range 16 {
			sectors = append(sectors, p*16+i)
		}
	}
	before := sectorFor(plain(1, 0)) + sectorFor(plain(2, 2)) + zeros(14*16) + zeros(256) + pageFor(node(2)) + zeros(3*256)
	paged := sectorFor(plain(1, 0)) + sectorFor(plain(2, 2)) + zeros(14*16) + pageFor(node(3)) + pageFor(node(2)) + pageFor(node(4)) + pageFor(node(5)) + zeros(256)
	after := sectorFor(plain(3, 4)) + paged[16:]
	for fuse := range 49 {
		if l, image, e := looseAt(t, fuse); !slices.Equal(l, sectors[:fuse]) || image != before || e != api.ErrDown {
			t.Error(fuse, l, e)
		}
	}
	if l, image, e := looseAt(t, 49); len(l) != 0 || image != paged || e != api.ErrDown {
		t.Error(l, e)
	}
	if l, image, e := looseAt(t, 50); !slices.Equal(l, []int{0}) || image != paged || e != api.ErrDown {
		t.Error(l, e)
	}
	if l, image, e := looseAt(t, 51); len(l) != 0 || image != after || e != api.OK {
		t.Error(l, e)
	}
}

func TestHeadsTakeTurns(t *testing.T) {
	m, d, s := made(t, 2)
	sectors := [2]string{sectorFor(plain(1, 0)), zeros(16)}
	for gen := uint64(2); gen < 30; gen++ {
		before := m.Uses()
		commits(t, s, api.OK, 0)
		sectors[1-gen%2] = sectorFor(plain(gen, 0))
		heads(t, d, sectors[0], sectors[1])
		has(t, s, plain(gen, 0), 1, 0)
		if m.Uses()-before != 3 {
			t.Error(m.Uses() - before)
		}
		if gen%3 == 0 {
			s = opened(t, d)
		}
	}
}

func TestCommitOfWhatCannotBe(t *testing.T) {
	m, d, s := made(t, 6)
	adds(t, s, node(1), 1)
	adds(t, s, node(2), 2)
	commits(t, s, api.OK, 1, 1, 2)
	adds(t, s, node(3), 3)
	adds(t, s, node(4), 4)
	uses, image := m.Uses(), d.Image()
	for _, c := range []struct {
		root  int
		pages []int
	}{
		{1, nil},
		{2, []int{1, 3}},
		{5, []int{1, 3}},
		{5, []int{1, 3, 5}},
		{0, []int{5}},
		{0, []int{1, 2, 3, 4, 5}},
		{1, []int{1, 5}},
		{1, []int{1, 0}},
		{0, []int{0}},
		{1, []int{1, 6}},
		{6, []int{6}},
		{1, []int{1, -1}},
		{-1, []int{-1}},
		{-1, []int{1}},
		{512, []int{512}},
		{512, []int{1, 512}},
		{1<<32 + 1, []int{1}},
		{1, []int{1<<32 + 1}},
		{math.MinInt, []int{math.MinInt}},
		{math.MaxInt, []int{math.MaxInt}},
		{math.MaxInt, nil},
	} {
		commits(t, s, api.ErrArg, c.root, c.pages...)
		has(t, s, plain(2, 1), 1, 2)
	}
	if m.Uses() != uses || d.Image() != image || len(d.Loose()) != 0 {
		t.Error("an error changed something")
	}
	for p := range 4 {
		reads(t, s, p+1, node(p+1))
	}
	m.Cut()
	commits(t, s, api.ErrArg, 5, 5)
	m.Come()
	commits(t, s, api.OK, 4, 4, 1)
	has(t, s, plain(3, 4), 3, 0)
}

// The last Gen that a head can have is the last one that is committed.
func TestCommitOfTheLastGen(t *testing.T) {
	m := mains.New()
	d := deviceWith(m, sectorFor(plain(1<<32-2, 0)), zeros(16))
	s := opened(t, d)
	adds(t, s, node(1), 1)
	commits(t, s, api.OK, 1, 1)
	has(t, s, plain(1<<32-1, 1), 2, 0)
	adds(t, s, node(2), 2)
	uses := m.Uses()
	for range 2 {
		commits(t, s, api.ErrArg, 2, 2)
		commits(t, s, api.ErrArg, 0)
		has(t, s, plain(1<<32-1, 1), 1, 1)
	}
	if m.Uses() != uses {
		t.Error(m.Uses() - uses)
	}
	has(t, opened(t, d), plain(1<<32-1, 1), 3, 0)
}

// A root of 0 is none of the pages, and may be beside some.
func TestCommitOfTheRootZero(t *testing.T) {
	_, d, s := made(t, 4)
	adds(t, s, node(1), 1)
	commits(t, s, api.OK, 0, 1)
	has(t, s, plain(2, 0), 2, 0)
	has(t, opened(t, d), plain(2, 0), 3, 0)
	commits(t, s, api.OK, 0)
	has(t, s, plain(3, 0), 3, 0)
}

// A committed page isn't written anew, though nothing but the store knows what is there.
func TestCommitOfCommittedPages(t *testing.T) {
	m, d, s := made(t, 4)
	adds(t, s, node(1), 1)
	commits(t, s, api.OK, 1, 1)
	other := pageFor(node(8))
	d.Write(16, other)
	before := m.Uses()
	adds(t, s, node(2), 2)
	commits(t, s, api.OK, 1, 2, 1, 1)
	if m.Uses()-before != 16+3 {
		t.Error(m.Uses() - before)
	}
	reads(t, s, 1, node(8))
	reads(t, s, 2, node(2))
	has(t, s, plain(3, 1), 1, 0)
}

func TestCommitOfAllPages(t *testing.T) {
	m, d, s := made(t, 1024)
	var all []int
	for p := 511; p > 0; p-- {
		all = append(all, p)
		adds(t, s, node(512-p), 512-p)
	}
	before := m.Uses()
	commits(t, s, api.OK, 511, all...)
	has(t, s, plain(2, 511), 0, 0)
	if m.Uses()-before != 511*16+3 {
		t.Error(m.Uses() - before)
	}
	s = opened(t, d)
	s.Keep(all...)
	has(t, s, plain(2, 511), 0, 0)
	for _, p := range all {
		reads(t, s, p, node(p))
	}
	addsNot(t, s, node(1), api.ErrPages)
}

// P7.4.

// keeps answers what may stay of what wasn't flushed: nothing, all, all but one of the first, just one, and any.
func keeps(chance *rand.Rand) []string {
	list := []string{"", "\x00", "\xff", "\xfe", "\x01", "\x55", "\xaa", "\xff\x00", "\x00\xff", "\x01" + zeros(8), "\xfe" + strings.Repeat("\xff", 8)}
	for range 6 {
		b := make([]byte, 9)
		chance.Read(b)
		list = append(list, string(b))
	}
	return list
}

// whole fails the test, unless s is what was committed with a head and these nodes.
func whole(t *testing.T, s *store.Store, h api.Head, nodes map[int]int) {
	t.Helper()
	if s.Head() != h {
		t.Errorf("%v; want %v", s.Head(), h)
	}
	for p, n := range nodes {
		reads(t, s, p, node(n))
	}
}

// readied answers a store that had so many commits more, and whose next Commit(1, 1, 2, 4) goes from the nodes of 2 and 3 to new ones.
func readied(t *testing.T, more int) (*mains.Mains, *disc.Disc, *store.Store) {
	m, d, s := made(t, 6)
	for range more {
		commits(t, s, api.OK, 0)
	}
	for i := range 3 {
		adds(t, s, node(i+1), i+1)
	}
	commits(t, s, api.OK, 1, 1)
	adds(t, s, node(20), 2)
	adds(t, s, node(30), 3)
	commits(t, s, api.OK, 3, 2, 3)
	adds(t, s, node(10), 1)
	adds(t, s, node(40), 4)
	return m, d, s
}

// Wherever the power goes: what is there then is one of both, whole.
func TestThePowerGoesInACommit(t *testing.T) {
	chance := rand.New(rand.NewSource(74))
	before, after := map[int]int{2: 20, 3: 30}, map[int]int{1: 10, 2: 20, 4: 40}
	seen := map[uint64]int{}
	for more := range 2 {
		old, next := plain(uint64(more)+3, 3), plain(uint64(more)+4, 1)
		for fuse := range 2*16 + 4 {
			for _, keep := range keeps(chance) {
				m, d, s := readied(t, more)
				m.Fuse(fuse)
				e := s.Commit(1, 1, 2, 4)
				if (e == api.OK) != (fuse == 2*16+3) || e != api.OK && e != api.ErrDown {
					t.Error(fuse, e)
				}
				lose(m, d, keep)
				now := opened(t, d)
				if e == api.OK || now.Head() != old {
					whole(t, now, next, after)
				} else {
					whole(t, now, old, before)
				}
				// The head is there just if all ahead of it was flushed, and it stayed.
				if came := now.Head() == next; came != (e == api.OK || fuse == 2*16+2 && keep != "" && keep[0]&1 == 1) {
					t.Error(fuse, keep, came)
				}
				seen[now.Head().Gen-uint64(more)]++
			}
		}
	}
	if seen[3] == 0 || seen[4] == 0 {
		t.Error(seen)
	}
}

// committed is what a head tells to be committed: the head, and which node stands on which page.
type committed struct {
	head  api.Head
	nodes map[int]int
}

// pagesIn answers the pages of what is committed, rising.
func pagesIn(c committed) []int {
	var list []int
	for p := range c.nodes {
		list = append(list, p)
	}
	slices.Sort(list)
	return list
}

// next answers what a Commit of some of the old pages and of new ones would make of c, with its pages in any order.
func next(t *testing.T, chance *rand.Rand, s *store.Store, c committed, fresh *int) (committed, []int) {
	t.Helper()
	n := committed{plain(c.head.Gen+1, 0), map[int]int{}}
	for p, v := range c.nodes {
		if chance.Intn(3) > 0 {
			n.nodes[p] = v
		}
	}
	for range chance.Intn(4) {
		*fresh++
		p, e := s.Add(node(*fresh))
		if e == api.ErrPages {
			break
		}
		if _, is := c.nodes[p]; is || e != api.OK {
			t.Fatal("a committed page was added", p, e)
		}
		if chance.Intn(5) > 0 {
			n.nodes[p] = *fresh
		}
	}
	list := pagesIn(n)
	chance.Shuffle(len(list), func(i, j int) { list[i], list[j] = list[j], list[i] })
	if len(list) > 0 && chance.Intn(4) > 0 {
		n.head.Root = list[0]
	}
	return n, list
}

// Long rows of commits, with the power going now and then, and with what was new ahead of that being lost.
func TestThePowerGoesAgainAndAgain(t *testing.T) {
	for seed := range int64(30) {
		chance := rand.New(rand.NewSource(seed))
		m, d, s := made(t, 2+chance.Intn(9))
		now, fresh := committed{plain(1, 0), nil}, 0
		for range 120 {
			then, list := next(t, chance, s, now, &fresh)
			if chance.Intn(2) == 0 {
				m.Fuse(chance.Intn(16*3 + 6))
			}
			e := s.Commit(then.head.Root, list...)
			if e == api.OK {
				now = then
				m.Fuse(-1)
			}
			if e != api.OK || chance.Intn(8) == 0 {
				b := make([]byte, 1+chance.Intn(8))
				chance.Read(b)
				lose(m, d, string(b))
				s = opened(t, d)
				if s.Head() != now.head {
					now = then
				}
				s.Keep(pagesIn(now)...)
			}
			whole(t, s, now.head, now.nodes)
			has(t, s, now.head, s.Pages()-1-len(now.nodes), 0)
		}
	}
}

// A store goes on where the power went ahead of a Commit, and came again.
func TestThePowerGoesBetweenCommits(t *testing.T) {
	m, d, s := made(t, 4)
	adds(t, s, node(1), 1)
	lose(m, d, "")
	reads(t, s, 1, node(1))
	commits(t, s, api.OK, 1, 1)
	lose(m, d, "")
	whole(t, opened(t, d), plain(2, 1), map[int]int{1: 1})
}

// Behind ErrDown nothing is promised, but that nothing panics.
func TestNothingPanicsBehindErrDown(t *testing.T) {
	for fuse := range 40 {
		m, d, s := readied(t, 0)
		m.Fuse(fuse)
		s.Commit(1, 1, 2, 4)
		for range 2 {
			m.Cut()
			for p := -1; p < 7; p++ {
				s.Read(p)
			}
			s.Add(node(7))
			s.Commit(1, 1, 2, 4)
			s.Commit(0)
			s.Keep(3)
			s.Sweep(4)
			d.Settle("\x10")
			m.Come()
		}
	}
}

// Against a store in memory: rows of any calls.

// memory is a store as the chapter's words have it.
type memory struct {
	head  api.Head
	at    int
	is    map[int]byte // 'c' of a committed page, 'n' of a new one
	nodes map[int]int  // of new pages
	disk  map[int]int  // of pages that were written
	pages int
	uses  int
}

// count answers how many pages are so.
func (k *memory) count(is byte) int {
	n := 0
	for _, b := range k.is {
		if b == is {
			n++
		}
	}
	return n
}

// drop makes the pages free of which is tells so.
func (k *memory) drop(is byte, except []int) {
	for p, b := range k.is {
		if b == is && !slices.Contains(except, p) {
			delete(k.is, p)
		}
	}
}

func (k *memory) keep(pages []int) {
	k.drop('c', nil)
	for _, p := range pages {
		if p > 0 && p < k.pages {
			k.is[p] = 'c'
		}
	}
}

// add answers the page of a new node; 0: there is none.
func (k *memory) add(n int) int {
	for p := 1; p < k.pages; p++ {
		if k.is[p] == 0 {
			k.is[p], k.nodes[p] = 'n', n
			return p
		}
	}
	return 0
}

func (k *memory) commit(root int, pages []int) api.Errno {
	if root != 0 && !slices.Contains(pages, root) {
		return api.ErrArg
	}
	for _, p := range pages {
		if k.is[p] == 0 {
			return api.ErrArg
		}
	}
	for _, p := range pages {
		if k.is[p] == 'n' {
			k.is[p], k.disk[p] = 'c', k.nodes[p]
			k.uses += 16
		}
	}
	k.uses += 3
	k.head = plain(k.head.Gen+1, root)
	k.at = 1 - k.at
	k.keep(pages)
	k.drop('n', nil)
	return api.OK
}

// alike fails the test, unless s, on d, is as k.
func (k *memory) alike(t *testing.T, m *mains.Mains, d *disc.Disc, s *store.Store) {
	t.Helper()
	has(t, s, k.head, k.pages-1-len(k.is), k.count('n'))
	if s.Pages() != k.pages || m.Uses() != k.uses || len(d.Loose()) != 0 {
		t.Error(s.Pages(), m.Uses(), k.uses, d.Loose())
	}
	if got := d.Image()[16*k.at : 16*k.at+16]; got != sectorFor(k.head) {
		t.Errorf("the head isn't in the sector %d", k.at)
	}
	for p := 1; p < k.pages; p++ {
		on, is := k.disk[p]
		if k.is[p] == 'n' {
			reads(t, s, p, node(k.nodes[p]))
		} else if is {
			reads(t, s, p, node(on))
		} else {
			readsNot(t, s, p, api.ErrForm)
		}
		if text := d.Image()[256*p : 256*p+256]; is && text != pageFor(node(on)) || !is && text != zeros(256) {
			t.Errorf("page %d has %q", p, text)
		}
	}
}

// anyPages answers a list of pages, most of them such as s has.
func anyPages(chance *rand.Rand, pages int) []int {
	var list []int
	for range chance.Intn(6) {
		list = append(list, 1+chance.Intn(pages-1))
	}
	if chance.Intn(6) == 0 {
		list = append(list, []int{0, -1, pages, 512, math.MaxInt}[chance.Intn(5)])
	}
	return list
}

// usedPages answers some of the pages that aren't free, in any order, some twice.
func (k *memory) usedPages(chance *rand.Rand) []int {
	var list []int
	for p := 1; p < k.pages; p++ {
		for k.is[p] != 0 && chance.Intn(3) > 0 && len(list) < 20 {
			list = append(list, p)
		}
	}
	chance.Shuffle(len(list), func(i, j int) { list[i], list[j] = list[j], list[i] })
	return list
}

// step does one call, whichever, with s and with k.
func (k *memory) step(t *testing.T, chance *rand.Rand, s *store.Store, n int) {
	t.Helper()
	switch chance.Intn(10) {
	case 0:
		list := anyPages(chance, k.pages)
		s.Keep(list...)
		k.keep(list)
	case 1:
		list := anyPages(chance, k.pages)
		s.Sweep(list...)
		k.drop('n', list)
	case 2, 3:
		list := k.usedPages(chance)
		if chance.Intn(3) == 0 {
			list = anyPages(chance, k.pages)
		}
		root := 0
		if len(list) > 0 && chance.Intn(3) > 0 {
			root = list[len(list)-1]
		}
		if chance.Intn(10) == 0 {
			root = chance.Intn(k.pages)
		}
		commits(t, s, k.commit(root, list), root, list...)
	default:
		if p := k.add(n); p != 0 {
			adds(t, s, node(n), p)
		} else {
			addsNot(t, s, node(n), api.ErrPages)
		}
	}
}

func TestRowsOfAnyCalls(t *testing.T) {
	for seed := range int64(40) {
		chance := rand.New(rand.NewSource(seed))
		pages := 2 + chance.Intn(12)
		m, d, s := made(t, pages)
		k := &memory{head: plain(1, 0), is: map[int]byte{}, nodes: map[int]int{}, disk: map[int]int{}, pages: pages, uses: m.Uses()}
		for i := range 250 {
			k.step(t, chance, s, i)
			k.alike(t, m, d, s)
			if chance.Intn(40) == 0 {
				s = opened(t, d)
				k.drop('c', nil)
				k.drop('n', nil)
			}
			if t.Failed() {
				t.Fatal("seed", seed, "step", i)
			}
		}
	}
}

// The rules that hold everywhere.

func TestWhatIsHandedInStays(t *testing.T) {
	_, _, s := made(t, 9)
	room := []api.Pair{{Key: 1, Val: 1}, {Key: 2, Val: 2}, {Key: 3, Val: 3}}
	adds(t, s, api.Leaf{List: room[:2]}, 1)
	if !slices.Equal(room, []api.Pair{{Key: 1, Val: 1}, {Key: 2, Val: 2}, {Key: 3, Val: 3}}) {
		t.Error(room)
	}
	room[0].Val = 9
	reads(t, s, 1, api.Leaf{List: []api.Pair{{Key: 1, Val: 1}, {Key: 2, Val: 2}}})
	for i := range 4 {
		adds(t, s, node(i), i+2)
	}
	list := []int{5, 1, 3, 1, 5, 4, 4}
	s.Sweep(list[:5]...)
	commits(t, s, api.OK, 5, list[:5]...)
	s.Keep(list[:5]...)
	if !slices.Equal(list, []int{5, 1, 3, 1, 5, 4, 4}) {
		t.Error(list)
	}
	list[0], list[1] = 2, 6
	has(t, s, plain(2, 5), 5, 0)
}

func TestAnswersAreNewMemory(t *testing.T) {
	_, _, s := made(t, 4)
	adds(t, s, node(1), 1)
	for range 2 {
		for range 2 {
			l, _ := s.Read(1)
			l.List[0].Key = 99
			_ = append(l.List, api.Pair{Key: 100})
			reads(t, s, 1, node(1))
		}
		commits(t, s, api.OK, 1, 1)
	}
}

// Stores share nothing but what stands on a device they have both.
func TestTwoStores(t *testing.T) {
	m := mains.New()
	a, b := disc.New(m, 64), disc.New(m, 96)
	one, _ := store.Format(a, tiers, 3)
	other, _ := store.Format(b, tiers, 3)
	adds(t, one, node(1), 1)
	adds(t, other, node(2), 1)
	adds(t, other, node(3), 2)
	commits(t, other, api.OK, 2, 2)
	has(t, one, plain(1, 0), 2, 1)
	has(t, other, plain(2, 2), 4, 0)
	reads(t, one, 1, node(1))
	commits(t, one, api.OK, 1, 1)
	reads(t, other, 2, node(3))
	has(t, opened(t, a), plain(2, 1), 3, 0)
}

// Of bytes that may be any nothing panics.
func TestDevicesOfAnyBytes(t *testing.T) {
	chance := rand.New(rand.NewSource(77))
	for range 300 {
		b := make([]byte, 16*(chance.Intn(80)))
		chance.Read(b)
		if len(b) >= 32 && chance.Intn(2) == 0 {
			copy(b[16*chance.Intn(2):], sectorFor(plain(uint64(chance.Uint32())+1, chance.Intn(512))))
		}
		m := mains.New()
		s, e := store.Open(disc.Of(m, string(b)))
		if (s == nil) != (e != api.OK) {
			t.Error(s, e)
		}
		for p := -1; p < 7; p++ {
			readsNotWell(t, s, p)
		}
		s.Add(node(1))
		s.Commit(1, 1)
	}
}

// readsNotWell fails the test, if a page of bytes that are no node's is read.
func readsNotWell(t *testing.T, s *store.Store, p int) {
	t.Helper()
	if l, e := s.Read(p); e == api.OK || len(l.List) != 0 {
		t.Error(p, l, e)
	}
}
