package pool_test

import (
	"slices"
	"strings"
	"testing"

	"tierce/api"
	"tierce/place"
)

// Tests of P19.3 and P19.6.

func TestSectorRanges(t *testing.T) {
	for _, size := range []int{1, 2, 3, 8} {
		r := made(t, 20, 4, size, 64)
		r.create(1, 3)
		r.create(2, 0)
		secs := 3 * size
		for at := -2; at <= secs+2; at++ {
			for n := -1; n <= 2*size+2; n++ {
				rangeIs(r, 1, at, n, at >= 0 && n >= 1 && n <= 2*size, at+n <= secs)
				rangeIs(r, 2, at, n, at >= 0 && n >= 1 && n <= 2*size, false)
			}
		}
		for _, end := range ends() {
			rangeIs(r, 1, end, 1, end >= 0, false)
			rangeIs(r, 1, end, 2*size, end >= 0, false)
			rangeIs(r, 1, 0, end, false, false)
			rangeIs(r, 1, end, end, false, false)
		}
	}
}

// rangeIs fails the test, unless all three calls answer a range so: ErrArg, unless it can be; ErrRange, unless it is within.
func rangeIs(r *rig, id, at, n int, can, within bool) {
	r.t.Helper()
	want := api.OK
	switch {
	case !can:
		want = api.ErrArg
	case !within:
		want = api.ErrRange
	}
	r.wants(want, order{word: "read", id: id, at: at, n: n})
	r.wants(want, order{word: "discard", id: id, at: at, n: n})
	if n >= 0 && n < 100 {
		r.wants(want, order{word: "write", id: id, at: at, data: strings.Repeat("x", n*sectorSize)})
	}
	r.wants(api.ErrMiss, order{word: "read", id: id + 5, at: at, n: n})
	r.wants(api.ErrMiss, order{word: "discard", id: id + 5, at: at, n: n})
}

func TestWriteTakesWholeSectors(t *testing.T) {
	r := made(t, 20, 4, 2, 64)
	r.create(1, 3)
	for n := range 90 {
		data := strings.Repeat("x", n)
		want := api.OK
		if n%sectorSize != 0 || n == 0 || n > 4*sectorSize {
			want = api.ErrArg
		}
		r.wants(want, order{word: "write", id: 1, data: data})
		r.wants(api.ErrMiss, order{word: "write", id: 2, data: data})
		if n%sectorSize != 0 {
			// Ahead of what is wrong with the range.
			r.wants(api.ErrArg, order{word: "write", id: 1, at: 6, data: data})
		}
	}
}

// uses answers how often an order uses the power; it must be OK.
func (r *rig) uses(o order) int {
	r.t.Helper()
	before := r.power.Uses()
	r.wants(api.OK, o)
	return r.power.Uses() - before
}

func TestAPieceIsWrittenInItsPlaceOrToANewChunk(t *testing.T) {
	r := made(t, 20, 8, 4, 64)
	r.create(1, 8)
	writes := func(id, at int, s string, uses, chunk int, spot api.Spot) {
		t.Helper()
		if got := r.uses(order{word: "write", id: id, at: at, data: secs(s)}); got != uses {
			t.Errorf("%q at %d of %d: %d uses; want %d", s, at, id, got, uses)
		}
		if got := r.pool.Chunk(id, at/4); got != chunk {
			t.Errorf("%q at %d of %d: chunk %d; want %d", s, at, id, got, chunk)
		}
		if got, _ := r.pool.Spot(chunk); got != spot {
			t.Errorf("%q at %d of %d: %v; want %v", s, at, id, got, spot)
		}
	}
	// Without a chunk: zeros, then the piece; just the piece, if it is the whole chunk.
	writes(1, 5, "ab", 4+2, 1, api.Spot{})
	writes(1, 8, "cdef", 4, 2, api.Spot{Slot: 1})
	// Alone, and new.
	writes(1, 4, "gh", 2, 1, api.Spot{})
	r.reads(1, 4, "ghb\x00")
	r.flush()
	// Alone, now and at the last commit.
	writes(1, 4, "i", 1, 1, api.Spot{})
	r.snap(1, 2)
	// Shared: a copy, then the piece; just the piece, if it is the whole chunk.
	writes(2, 5, "j", 4+1, 3, api.Spot{Slot: 2})
	writes(2, 8, "klmn", 4, 4, api.Spot{Slot: 3})
	r.reads(1, 4, "ihb\x00")
	r.reads(1, 8, "cdef")
	r.reads(2, 4, "ijb\x00")
	r.reads(2, 8, "klmn")
	// The other one has it alone, and had it at the last commit.
	writes(1, 7, "o", 1, 1, api.Spot{})
	// Two had it at the last commit, and one has it now: a new chunk again.
	r.snap(1, 3)
	r.flush()
	r.delete(3)
	writes(1, 7, "p", 4+1, 5, api.Spot{Slot: 4})
	// By the next commit it is alone.
	r.write(1, 0, "q")
	r.snap(1, 3)
	r.flush()
	r.delete(3)
	r.flush()
	writes(1, 7, "r", 1, 5, api.Spot{Slot: 4})
	r.reads(1, 4, "ihbr")
}

func TestNewChunksTakeTheLowestNumbersAndSlots(t *testing.T) {
	r := made(t, 4, 4, 1, 64)
	r.create(1, 10)
	r.create(2, 10)
	for at := range 3 {
		r.write(1, at, "x")
	}
	// The slow tier has one slot left, which is kept for migrations; so it is the fast one's turn.
	for at := 3; at < 6; at++ {
		r.write(1, at, "x")
		if got, _ := r.pool.Spot(at + 1); got != (api.Spot{Tier: fast, Slot: at - 3}) {
			t.Errorf("chunk %d: %v", at+1, got)
		}
	}
	r.wants(api.ErrSpace, order{word: "write", id: 1, at: 6, data: secs("x")})
	r.discard(1, 1, 1) // it waits for the next commit, since what was refused has committed all
	r.write(2, 1, "y")
	if got := r.pool.Chunk(2, 1); got != 2 {
		t.Errorf("chunk %d", got)
	}
	if got, _ := r.pool.Spot(2); got != (api.Spot{Slot: 1}) {
		t.Errorf("%v", got)
	}
}

func TestARangeOverThreePlaces(t *testing.T) {
	r := made(t, 20, 8, 3, 64)
	r.create(1, 5)
	r.write(1, 2, "abcdef") // a piece of one, of three, of two
	r.reads(1, 0, "\x00\x00abcd")
	r.reads(1, 3, "bcdef\x00")
	if r.pool.Status().Chunks != 3 {
		t.Error(r.pool.Status())
	}
	r.snap(1, 2)
	r.write(2, 8, "uvwxyz")
	r.reads(2, 6, "efuvwx")
	r.reads(1, 6, "ef\x00\x00\x00\x00")
	r.discard(2, 5, 6) // one, three, two
	r.reads(2, 3, "bc\x00\x00\x00\x00")
	r.reads(2, 9, "\x00\x00xyz\x00"[:6])
	if r.pool.Chunk(2, 2) != 0 || r.pool.Chunk(1, 2) == 0 {
		t.Error("the whole one's chunk")
	}
}

func TestDiscard(t *testing.T) {
	r := made(t, 20, 8, 2, 64)
	r.create(1, 4)
	discards := func(id, at, n, uses, chunks int) {
		t.Helper()
		if got := r.uses(order{word: "discard", id: id, at: at, n: n}); got != uses {
			t.Errorf("%d from %d of %d: %d uses; want %d", n, at, id, got, uses)
		}
		if got := r.pool.Status().Chunks; got != chunks {
			t.Errorf("%d from %d of %d: %d chunks; want %d", n, at, id, got, chunks)
		}
	}
	discards(1, 1, 4, 0, 0) // where nothing stands
	r.write(1, 0, "abcd")
	discards(1, 1, 2, 2, 2) // zeros, in their places
	r.reads(1, 0, "a\x00\x00d")
	r.snap(1, 2)
	discards(2, 0, 1, 3, 3) // a copy, and zeros there
	r.reads(1, 0, "a\x00\x00d")
	discards(2, 2, 2, 0, 3) // let go: the other one has it still
	discards(1, 0, 4, 0, 1)
	r.reads(1, 0, "\x00\x00\x00\x00")
	r.reads(2, 0, "\x00\x00\x00\x00")
	// A whole chunk wants none, even where there is no room.
	r = made(t, 2, 2, 2, 64)
	r.create(1, 3)
	r.write(1, 0, "abcd")
	r.snap(1, 2)
	r.wants(api.ErrSpace, order{word: "discard", id: 1, at: 0, n: 1})
	r.wants(api.ErrSpace, order{word: "discard", id: 1, at: 0, n: 3})
	r.wants(api.ErrSpace, order{word: "discard", id: 1, at: 1, n: 4})
	r.reads(1, 0, "abcd")
	r.discard(1, 0, 2)
	r.discard(1, 4, 1)
	r.discard(2, 0, 1) // its chunk is alone by the commit that was made for want of room
	r.reads(2, 0, "\x00bcd")
}

// isWarm fails the test, unless the volume's chunk at a place is warm, or isn't, by a Tick that begins its way, or doesn't.
func isWarm(r *rig, want bool) {
	r.t.Helper()
	c := &rig{t: r.t, power: r.power, slow: r.slow, fast: r.fast, meta: r.meta, pool: r.pool, twin: r.twin, before: r.before}
	c.tick(0)
	if got := c.pool.Status().Moving; got != want {
		r.t.Errorf("Moving: %v; want %v", got, want)
	}
}

func TestEachChunkIsTouchedOnce(t *testing.T) {
	// A chunk goes up when it was touched twice.
	for name, c := range map[string]struct {
		do     []order
		isWarm bool
	}{
		"written":                 {[]order{{word: "write", id: 1, data: secs("abcd")}}, false},
		"written twice":           {[]order{{word: "write", id: 1, data: secs("a")}, {word: "write", id: 1, data: secs("b")}}, true},
		"written, and read whole": {[]order{{word: "write", id: 1, data: secs("abcd")}, {word: "read", id: 1, n: 2}}, true},
		"read of nothing":         {[]order{{word: "write", id: 1, data: secs("abcd")}, {word: "read", id: 1, at: 4, n: 2}}, false},
		"discarded in part":       {[]order{{word: "write", id: 1, data: secs("abcd")}, {word: "discard", id: 1, n: 1}, {word: "discard", id: 1, n: 1}}, false},
		"discarded, and anew":     {[]order{{word: "write", id: 1, data: secs("ab")}, {word: "discard", id: 1, n: 2}, {word: "write", id: 1, data: secs("ab")}}, false},
		"copied, and written":     {[]order{{word: "write", id: 1, data: secs("ab")}, {word: "snap", id: 1, to: 2}, {word: "write", id: 1, data: secs("c")}}, false},
		"faded":                   {[]order{{word: "write", id: 1, data: secs("ab")}, {word: "decay"}, {word: "read", id: 1, n: 1}}, false},
		"refused":                 {[]order{{word: "write", id: 1, data: secs("ab")}, {word: "read", id: 1, at: 5, n: 2}}, false},
	} {
		t.Run(name, func(t *testing.T) {
			r := made(t, 10, 4, 2, 64)
			r.create(1, 3)
			for _, o := range c.do {
				r.does(o)
			}
			isWarm(r, c.isWarm)
		})
	}
}

func TestAChunkAtTwoPlacesIsReadOnce(t *testing.T) {
	c := plain()
	c.charts[0] = []api.Pair{{Key: 0, Val: 7}, {Key: 1, Val: 7}, {Key: 3, Val: 5}}
	c.vols[1].Pinned = false
	r := c.devices(t)
	r.opens(loaded(t, r.meta))
	r.reads(2, 1, "le")
	isWarm(r, false)
	r.reads(2, 1, "le")
	isWarm(r, true)
	// None of the places has it alone.
	r.write(2, 1, "xy")
	r.reads(2, 0, "exyl")
	r.reads(9, 2, "el")
	// Nor has one of them, behind the other one, till the next commit.
	r = c.devices(t)
	r.opens(loaded(t, r.meta))
	r.discard(2, 0, 3)
	r.reads(2, 0, "\x00\x00\x00l")
	r.reads(9, 2, "el")
}

func TestSpaceIsAnsweredOnlyWhereThereIsNone(t *testing.T) {
	for i, s := range shapes() {
		x := newMix(int64(i)+20, s.ids, s.places)
		x.wild = 0
		r := s.filled(t, x)
		met := 0
		for range s.orders / 2 {
			o := x.next(r.twin)
			if r.does(o) != api.ErrSpace {
				continue
			}
			met++
			if o.word != "write" && o.word != "discard" {
				t.Fatalf("%+v: ErrSpace", o)
			}
			// All is committed now, so that just what others have is shared.
			wants := 0
			v := r.twin.vols[o.id]
			n := o.n
			if o.word == "write" {
				n = len(o.data) / sectorSize
			}
			list, _ := r.twin.parts(v, o.at, n)
			for _, x := range list {
				chunk := v.chunks[x.at]
				switch {
				case chunk == 0 && o.word == "write", chunk != 0 && len(r.twin.owners[chunk]) > 1 && (o.word == "write" || x.n < s.size):
					wants++
				case len(r.twin.owners[chunk]) > 1 && o.word == "write":
					wants++
				}
			}
			if len(r.twin.owners)+wants <= s.slow+s.fast-2 {
				t.Fatalf("%+v: ErrSpace, but there are %d chunks, %d are wanted, of %d slots", o, len(r.twin.owners), wants, s.slow+s.fast)
			}
		}
		t.Log(s, met)
	}
}

func TestWhereSlotsAndPagesAreTooFewItIsErrSpace(t *testing.T) {
	c := craft{
		slots: [2]int{1, 1}, chunk: 1, pages: 6,
		vols:   []api.Volume{{Id: 1, Size: 3}},
		charts: [][]api.Pair{{{Key: 1, Val: 1}}},
		places: []place.Place{{Chunk: 1}},
	}
	r := c.devices(t)
	r.opens(loaded(t, r.meta))
	r.wants(api.ErrSpace, order{word: "write", id: 1, at: 1, data: secs("ab")})
	r.wants(api.ErrSpace, order{word: "write", id: 1, at: 0, data: secs("ab")})
	r.wants(api.ErrPages, order{word: "write", id: 1, at: 1, data: secs("a")})
	r.wants(api.ErrPages, order{word: "discard", id: 1, at: 1, n: 1})
}

func TestAllSlotsButOneOfEachTierAreData(t *testing.T) {
	for slowSlots := 1; slowSlots <= 4; slowSlots++ {
		for fastSlots := 1; fastSlots <= 4; fastSlots++ {
			r := made(t, slowSlots, fastSlots, 1, 64)
			r.create(1, 20)
			most := slowSlots + fastSlots - 2
			for at := range most {
				r.write(1, at, "x")
			}
			r.wants(api.ErrSpace, order{word: "write", id: 1, at: most, data: secs("x")})
			if most > 0 {
				r.wants(api.ErrSpace, order{word: "write", id: 1, at: most - 1, data: secs("yz")})
				r.reads(1, most-1, "x")
				r.write(1, most-1, "w")
				r.discard(1, 0, 1)
				r.write(1, most, "x")
			}
		}
	}
}

func TestNoVolumesChangeIsAnotherOnes(t *testing.T) {
	r := made(t, 100, 20, 2, 128)
	r.create(1, 4)
	r.write(1, 0, "abcd")
	r.write(1, 4, "efgh")
	for id := 2; id <= maxVolumes; id++ {
		r.snap(id-1, id)
		r.discard(id, id%8, 1)
		r.write(id, (id+3)%8, string(rune('A'+id)))
		r.ticks(id % 5)
	}
	r.flush()
	for id := 1; id <= maxVolumes; id++ {
		row := r.twin.vols[id].sectors(0, 8)
		for other := 1; other <= maxVolumes; other++ {
			if other != id {
				r.write(other, id%7, "xy")
			}
		}
		r.wants(api.OK, order{word: "read", id: id, n: 4})
		if got := r.twin.vols[id].sectors(0, 8); got != row {
			t.Errorf("volume %d: %s; want %s", id, short(got), short(row))
		}
	}
}

func TestTicksPinsAndDecaysPlayNoPart(t *testing.T) {
	// The same orders, with and without these, and with another fast tier: what is read is the same.
	for seed := range int64(6) {
		s := shape{slow: 60, fast: 20, size: 2, pages: 96, ids: 4, places: 8}
		x := newMix(seed, s.ids, s.places)
		one, other := s.filled(t, x), shape{slow: 90, fast: 2, size: 2, pages: 96}.filled(t, x)
		for range 500 {
			o := x.next(one.twin)
			s, e := one.asked(o)
			one.twin.do(o)
			if slices.Contains([]string{"tick", "pin", "decay"}, o.word) {
				continue
			}
			if other, f := other.asked(o); other != s || f != e {
				t.Fatalf("%+v: %s, %d, and %s, %d", o, short(s), e, short(other), f)
			}
		}
	}
}

func TestChangesOfHighMapsFitOrAreRefused(t *testing.T) {
	// Maps that no pool makes: all levels, of nodes with one pair but for the root and the leaves. A change of three places adds up to 24 nodes, which may be more than the need.
	for each, made := range map[int]int{1: 29 + 22, 2: 15 + 15} {
		for _, o := range []order{
			{word: "write", id: 1, at: 1, data: secs("abcd")},
			{word: "discard", id: 2, at: 1, n: 4},
			{word: "write", id: 2, at: 5, data: secs("efgh")},
		} {
			met := map[api.Errno]int{}
			for more := range 40 {
				// The maps, the heads, the root's tree, and so many more.
				met[highMaps(t, made+2+more, each, o)]++
			}
			if met[api.OK] == 0 || met[api.ErrPages] == 0 {
				t.Errorf("%+v: %v", o, met)
			}
		}
	}
}

// highMaps asks an order of a pool that was opened with high maps, with so many pairs in each leaf, and answers the error.
func highMaps(t *testing.T, pages, each int, o order) api.Errno {
	t.Helper()
	c := craft{
		pages: pages, chunk: 2, slots: [2]int{9, 4},
		vols:   []api.Volume{{Id: 1, Size: 6}, {Id: 2, Size: 6}},
		charts: [][]api.Pair{{{Key: 0, Val: 7}, {Key: 1, Val: 5}, {Key: 2, Val: 6}, {Key: 3, Val: 8}}, {{Key: 0, Val: 7}, {Key: 1, Val: 5}, {Key: 2, Val: 6}}},
		shape:  func(a *adder, list []api.Pair) int { return tall(a, list, 8, each) },
	}
	for i, chunk := range []int{5, 6, 7, 8} {
		c.places = append(c.places, place.Place{Chunk: chunk, Spot: api.Spot{Slot: i}})
	}
	r := c.devices(t)
	r.opens(loaded(t, r.meta))
	e := r.does(o)
	r.does(order{word: "flush"})
	x := newMix(int64(pages), 3, 6)
	for range 15 {
		r.does(x.next(r.twin))
	}
	if r.does(order{word: "flush"}) == api.OK {
		r.reopens()
	}
	return e
}
