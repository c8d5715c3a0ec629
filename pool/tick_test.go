package pool_test

import (
	"testing"

	"tierce/api"
	"tierce/pool"
)

// Tests of P19.4, and of P4.

func TestFlushCommitsAll(t *testing.T) {
	r := made(t, 8, 4, 2, 64)
	// Both tiers, no page, a flush, the head, a flush.
	if got := r.uses(order{word: "flush"}); got != 5 {
		t.Errorf("%d uses", got)
	}
	r.create(1, 4)
	r.write(1, 0, "abc")
	if len(r.slow.Loose()) == 0 {
		t.Fatal("nothing is loose")
	}
	// A page of the root's tree, and one of the map.
	if got := r.uses(order{word: "flush"}); got != 5+2*pageSecs {
		t.Errorf("%d uses", got)
	}
	if got := r.pool.Status(); got.Gen != 3 || got.Pages != 63-2 || len(r.slow.Loose())+len(r.fast.Loose())+len(r.meta.Loose()) != 0 {
		t.Errorf("%+v", got)
	}
	// The tree again; the map is as it was.
	if got := r.uses(order{word: "flush"}); got != 5+pageSecs {
		t.Errorf("%d uses", got)
	}
	r.reopens()
	r.reads(1, 0, "abc\x00")
}

func TestTheSlowTierIsFlushedFirst(t *testing.T) {
	for fuse, want := range [][2]int{{6, 2}, {0, 2}, {0, 0}} {
		r := made(t, 4, 4, 2, 64)
		r.create(1, 5)
		for at := range 4 {
			r.write(1, 2*at, "xy")
		}
		r.power.Fuse(fuse)
		if e := r.pool.Flush(); e != api.ErrDown {
			t.Fatal(e)
		}
		if got := [2]int{len(r.slow.Loose()), len(r.fast.Loose())}; got != want {
			t.Errorf("behind %d uses: %v loose; want %v", fuse, got, want)
		}
	}
}

func TestAMoveTakesFourTicks(t *testing.T) {
	r := made(t, 8, 4, 3, 64)
	r.create(1, 4)
	r.write(1, 0, "abc")
	r.write(1, 3, "def")
	r.flush()
	r.pin(1, true)
	slowly, quickly := api.Spot{Slot: 1}, api.Spot{Tier: fast}
	for i, c := range []struct {
		uses   int
		spot   api.Spot
		moving bool
		room   int
		dirty  int
	}{
		{0, slowly, true, 5 + 2, 0},
		{3, slowly, true, 5 + 2, 3}, // copied
		{1, slowly, true, 5 + 2, 0}, // flushed
		{0, quickly, false, 5 + 2, 0},
	} {
		if got := r.uses(order{word: "tick", pick: 1}); got != c.uses {
			t.Errorf("tick %d: %d uses; want %d", i, got, c.uses)
		}
		spot, _ := r.pool.Spot(2)
		if got := r.pool.Status(); spot != c.spot || got.Moving != c.moving || got.Room != c.room || got.Dirty != c.dirty {
			t.Errorf("tick %d: %v, %+v; want %+v", i, spot, got, c)
		}
	}
	// Where it was is needed by the last commit still.
	r.write(1, 6, "ghi")
	if spot, _ := r.pool.Spot(3); spot != (api.Spot{Slot: 2}) {
		t.Error(spot)
	}
	r.flush()
	r.write(1, 9, "jkl")
	if spot, _ := r.pool.Spot(4); spot != slowly {
		t.Error(spot)
	}
	r.reads(1, 0, "abcdef")
}

func TestAWrittenChunkIsCopiedAnew(t *testing.T) {
	for phase := 1; phase <= 3; phase++ {
		for name, o := range map[string]order{
			"write":   {word: "write", id: 1, at: 1, data: secs("z")},
			"discard": {word: "discard", id: 1, at: 1, n: 1},
		} {
			r := made(t, 8, 4, 2, 64)
			r.create(1, 2)
			r.write(1, 0, "ab")
			r.flush()
			r.pin(1, true)
			r.ticks(phase)
			if got := r.uses(o); got != 1 {
				t.Errorf("%s: %d uses", name, got)
			}
			for i, uses := range []int{2, 1, 0} {
				if !r.pool.Status().Moving {
					t.Errorf("%s in phase %d: it is there ahead of tick %d", name, phase, i)
				}
				if got := r.uses(order{word: "tick"}); got != uses {
					t.Errorf("%s in phase %d, tick %d: %d uses; want %d", name, phase, i, got, uses)
				}
			}
			if spot, _ := r.pool.Spot(1); spot.Tier != fast || r.pool.Status().Moving {
				t.Errorf("%s in phase %d: %v", name, phase, spot)
			}
		}
	}
}

func TestWhatIsntWrittenGoesOn(t *testing.T) {
	for phase := 1; phase <= 3; phase++ {
		r := made(t, 8, 4, 2, 64)
		r.create(1, 2)
		r.write(1, 0, "abcd")
		r.snap(1, 2)
		r.pin(1, true)
		r.ticks(phase)
		r.touch(1, 0, 3)
		r.touch(2, 1, 3)
		r.write(2, 0, "x") // a new chunk, since the one on its way is shared
		r.write(1, 3, "y") // another one's
		r.decay()
		r.pin(1, false)
		r.flush()
		r.create(3, 1)
		r.resize(1, 5)
		r.ticks(4 - phase)
		if spot, _ := r.pool.Spot(1); spot.Tier != fast || r.pool.Status().Moving {
			t.Errorf("phase %d: %v", phase, spot)
		}
		r.reads(1, 0, "abcy")
		r.reads(2, 0, "xbcd")
	}
}

func TestAChunkThatIsLetGoIsStopped(t *testing.T) {
	for name, o := range map[string]order{
		"delete":  {word: "delete", id: 1},
		"resize":  {word: "resize", id: 1, size: 0},
		"discard": {word: "discard", id: 1, n: 2},
	} {
		for phase := 1; phase <= 3; phase++ {
			for _, flushed := range []bool{false, true} {
				r := made(t, 8, 4, 2, 64)
				r.create(1, 2)
				r.write(1, 0, "ab")
				r.pin(1, true)
				r.ticks(phase)
				if flushed {
					r.flush() // its new slot is bound by that, so it waits
				}
				r.wants(api.OK, o)
				want := 7 + 3
				if flushed {
					want = 6 + 2
				}
				if got := r.pool.Status(); got.Moving || got.Chunks != 0 || got.Room != want {
					t.Errorf("%s in phase %d: %+v", name, phase, got)
				}
				r.ticks(5)
				r.flush()
				if got := r.pool.Status(); got.Room != 7+3 {
					t.Errorf("%s in phase %d: %+v", name, phase, got)
				}
			}
		}
	}
}

func TestAChunkThatAnotherOneOwnsIsntStopped(t *testing.T) {
	r := made(t, 8, 4, 2, 64)
	r.create(1, 2)
	r.write(1, 0, "ab")
	r.snap(1, 2)
	r.pin(1, true)
	r.ticks(2)
	r.delete(1)
	if !r.pool.Status().Moving {
		t.Error("it is stopped")
	}
	r.ticks(2)
	if spot, _ := r.pool.Spot(1); spot.Tier != fast {
		t.Error(spot)
	}
	r.reads(2, 0, "ab")
}

func TestAChangeThatWantsRoomStopsTheChunkOnItsWay(t *testing.T) {
	r := made(t, 3, 3, 1, 64)
	r.create(1, 9)
	for at := range 3 {
		r.write(1, at, "x")
	}
	r.pin(1, true)
	r.ticks(2) // of the fast tier one slot has the third chunk, one is for that on its way
	if got := r.pool.Status(); !got.Moving || got.Room != 0 {
		t.Fatalf("%+v", got)
	}
	r.write(1, 3, "x")
	if got := r.pool.Status(); got.Moving || got.Room != 0 || got.Gen != 2 {
		t.Errorf("%+v", got)
	}
	// Where nothing helps it is stopped too, and all is committed.
	r.ticks(2)
	gen := r.pool.Status().Gen
	r.wants(api.ErrSpace, order{word: "write", id: 1, at: 4, data: secs("x")})
	if got := r.pool.Status(); got.Moving || got.Gen != gen+1 {
		t.Errorf("%+v", got)
	}
	r.reads(1, 3, "x")
}

func TestAChangeThatHasRoomByACommit(t *testing.T) {
	r := made(t, 3, 2, 1, 64)
	r.create(1, 9)
	for at := range 3 {
		r.write(1, at, "x")
	}
	r.flush()
	r.delete(1)
	r.create(2, 9)
	if got := r.pool.Status(); got.Room != 0 || got.Gen != 2 {
		t.Fatalf("%+v", got)
	}
	r.write(2, 0, "y")
	if got := r.pool.Status(); got.Room != 2 || got.Gen != 3 {
		t.Errorf("%+v", got)
	}
	// A chunk that isn't alone till the commit wants none behind it.
	r.write(2, 1, "zz"[:2])
	r.snap(2, 3)
	r.flush()
	r.delete(3)
	r.write(2, 0, "w")
	if got := r.pool.Status(); got.Room != 0 || got.Gen != 5 || got.Chunks != 3 {
		t.Errorf("%+v", got)
	}
}

func TestHotChunksGoUpAndColdOnesDown(t *testing.T) {
	r := made(t, 6, 3, 1, 64)
	r.create(1, 6)
	for at := range 5 {
		r.write(1, at, "x")
	}
	r.flush()
	up := func(chunk int) {
		t.Helper()
		r.ticks(4)
		if spot, _ := r.pool.Spot(chunk); spot.Tier != fast {
			t.Errorf("chunk %d: %v", chunk, spot)
		}
	}
	r.touch(1, 3, 1)
	up(4)
	r.touch(1, 0, 3)
	up(1)
	// The fast tier is full, but for the reserve: the colder one goes down, as soon as one is of a higher level.
	r.touch(1, 1, 1)
	r.tick(0)
	if r.pool.Status().Moving {
		t.Error("one of the same level moves")
	}
	r.touch(1, 1, 2)
	r.ticks(4)
	if spot, _ := r.pool.Spot(4); spot.Tier != slow {
		t.Error(spot)
	}
	r.flush() // its slot waits till then
	up(2)
	// Behind enough Decays all are cold.
	for range 21 {
		r.decay()
	}
	r.ticks(8)
	if r.pool.Status().Moving {
		t.Error("a cold chunk moves")
	}
}

func TestPinnedChunksGoUpAheadOfOthersAndStay(t *testing.T) {
	r := made(t, 8, 3, 1, 64)
	r.create(1, 3)
	r.create(2, 2)
	for at := range 2 {
		r.write(1, at, "x")
		r.write(2, at, "y")
		r.touch(1, at, 100)
	}
	r.flush()
	r.ticks(4) // a hot chunk
	r.pin(2, true)
	if got := r.pool.Status(); got.Waits != 2 {
		t.Errorf("%+v", got)
	}
	// The other place; then the hot one goes down for the second.
	for r.pool.Status().Waits > 0 {
		r.ticks(4)
		r.flush()
	}
	for at := range 2 {
		if spot, _ := r.pool.Spot(r.pool.Chunk(2, at)); spot.Tier != fast {
			t.Errorf("place %d: %v", at, spot)
		}
	}
	// Nothing comes up for which one of these would have to go down.
	r.touch(1, 0, 500)
	r.touch(1, 1, 500)
	r.ticks(20)
	if got := r.pool.Status(); got.Waits != 0 || got.Moving {
		t.Errorf("%+v", got)
	}
	r.pin(2, false)
	r.ticks(4)
	r.flush()
	r.ticks(4)
	if spot, _ := r.pool.Spot(r.pool.Chunk(1, 0)); spot.Tier != fast {
		t.Error(spot)
	}
}

func TestASharedChunkIsPinnedByAnyOfItsOwners(t *testing.T) {
	r := made(t, 8, 4, 1, 64)
	r.create(1, 2)
	r.write(1, 0, "a")
	r.snap(1, 2)
	r.snap(2, 3)
	r.pin(2, true)
	if got := r.pool.Status(); got.Waits != 1 {
		t.Errorf("%+v", got)
	}
	r.ticks(4)
	if spot, _ := r.pool.Spot(1); spot.Tier != fast {
		t.Error(spot)
	}
	r.write(2, 0, "b") // its own, on the slow tier
	if got := r.pool.Status(); got.Waits != 1 {
		t.Errorf("%+v", got)
	}
	r.delete(2)
	if got := r.pool.Status(); got.Waits != 0 {
		t.Errorf("%+v", got)
	}
}

func TestAFastTierOfOneSlotHasNoRoom(t *testing.T) {
	r := made(t, 8, 1, 1, 64)
	r.create(1, 2)
	r.write(1, 0, "a")
	r.touch(1, 0, 9)
	r.pin(1, true)
	r.ticks(5)
	if got := r.pool.Status(); got.Moving || got.Waits != 1 {
		t.Errorf("%+v", got)
	}
}

func TestAChunkGoesDownToTheReserve(t *testing.T) {
	r := made(t, 2, 4, 1, 64)
	r.create(1, 6)
	for at := range 4 {
		r.write(1, at, "x") // one on the slow tier, three on the fast one
	}
	r.touch(1, 0, 20)
	r.ticks(4)
	if got, _ := r.pool.Spot(2); got != (api.Spot{Slot: 1}) {
		t.Errorf("%v", got)
	}
	r.ticks(4)
	if got, _ := r.pool.Spot(1); got.Tier != fast {
		t.Errorf("%v", got)
	}
	// Where no slot is free there, none goes down.
	r = made(t, 1, 3, 1, 64)
	r.create(1, 6)
	r.write(1, 0, "x")
	r.write(1, 1, "y")
	r.ticks(4)
	if got := r.pool.Status(); got.Moving {
		t.Errorf("%+v", got)
	}
}

func TestThePickChoosesAmongEquals(t *testing.T) {
	for _, pick := range append(ends(), 0, 1, 2, 3) {
		r := made(t, 8, 4, 1, 64)
		r.create(1, 3)
		for at := range 3 {
			r.write(1, at, "x")
		}
		r.pin(1, true)
		for range 4 {
			r.tick(pick)
		}
		want := 1 + int(uint(pick)%3)
		if spot, _ := r.pool.Spot(want); spot.Tier != fast {
			t.Errorf("pick %d: chunk %d is at %v", pick, want, spot)
		}
	}
}

func TestTicksOfAnEmptyPool(t *testing.T) {
	r := made(t, 8, 4, 1, 64)
	for _, pick := range ends() {
		if got := r.uses(order{word: "tick", pick: pick}); got != 0 {
			t.Error(got)
		}
		r.decay()
	}
	if got := r.pool.Status(); got != (pool.Status{Room: 10, Pages: 63, Need: 22, Gen: 1}) {
		t.Errorf("%+v", got)
	}
}

func TestNoPinnedChunkGoesDown(t *testing.T) {
	s := shape{slow: 10, fast: 5, size: 1, pages: 64, ids: 4, places: 5}
	x := newMix(77, s.ids, s.places)
	x.wild = 0
	r := s.filled(t, x)
	began := 0 // a chunk that was on its way down when it was pinned
	for range 6000 {
		o := x.next(r.twin)
		was := map[int]api.Spot{}
		for chunk, spot := range r.twin.spots {
			if r.twin.isPinned(chunk) && spot.Tier == fast {
				was[chunk] = spot
			}
		}
		if w := r.twin.way; w != nil && w.to.Tier == slow && !r.twin.isPinned(w.chunk) {
			began = w.chunk
		}
		r.lives(o)
		if o.word != "tick" {
			continue
		}
		for chunk := range was {
			if spot, is := r.pool.Spot(chunk); is && spot.Tier == slow && chunk != began {
				t.Fatalf("chunk %d: %v", chunk, spot)
			}
		}
	}
	r.agrees()
}
