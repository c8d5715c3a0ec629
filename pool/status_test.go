package pool_test

import (
	"slices"
	"testing"

	"tierce/api"
	"tierce/pool"
)

// Tests of P19.5.

func TestStatusTellsEachOfItsNumbers(t *testing.T) {
	r := made(t, 6, 4, 2, 64)
	want := pool.Status{Room: 5 + 3, Pages: 63, Need: 22, Gen: 1}
	is := func() {
		t.Helper()
		if got := r.pool.Status(); got != want {
			t.Errorf("%+v; want %+v", got, want)
		}
	}
	is()
	r.create(1, 5)
	is()
	r.write(1, 0, "abcd")
	want.Chunks, want.Room, want.Pages = 2, 6, 62 // a map of one node
	is()
	r.snap(1, 2)
	is()
	r.write(2, 0, "e")
	want.Chunks, want.Room, want.Pages = 3, 5, 61 // another map
	is()
	r.flush()
	want.Pages, want.Gen = 60, 2
	is()
	r.pin(2, true)
	want.Waits = 2
	is()
	r.tick(0)
	want.Moving, want.Room = true, 4
	is()
	r.tick(0)
	want.Dirty = 2
	is()
	r.tick(0)
	want.Dirty = 0
	is()
	r.tick(0)
	want.Moving, want.Waits = false, 1
	is()
	r.write(2, 2, "f") // a new chunk, since that is shared; the map has a new node
	want.Chunks, want.Room, want.Pages, want.Waits = 4, 3, 59, 2
	is()
	r.discard(1, 0, 2) // its slot waits for the next commit; the map has a new node
	want.Chunks, want.Pages = 3, 58
	is()
	r.discard(1, 2, 2) // its slot is free, since it came there behind the last commit; no map is left that has that node
	want.Chunks, want.Room, want.Pages = 2, 4, 59
	is()
	r.flush()
	want.Room, want.Pages, want.Gen = 8-2, 63-2, 3
	is()
}

func TestTheNeed(t *testing.T) {
	// 20, and twice the nodes of a tree of so many pairs, and three more.
	r := made(t, 250, 250, 1, 512)
	for _, c := range []struct{ pairs, need int }{
		{0, 22}, {1, 22}, {12, 22}, {13, 26}, {27, 26}, {28, 28}, {42, 28}, {43, 30}, {222, 20 + 2*16}, {223, 20 + 2*(16+2+1)}, {237, 20 + 2*(16+2+1)}, {238, 20 + 2*(17+2+1)},
	} {
		for len(r.twin.vols)+len(r.twin.owners) < c.pairs {
			n := len(r.twin.owners)
			if n%64 == 0 && len(r.twin.vols) == n/64 {
				r.create(1+n/64, 64)
				continue
			}
			r.wants(api.OK, order{word: "write", id: 1 + n/64, at: n % 64, data: secs("x")})
		}
		if got := r.pool.Status().Need; got != c.need {
			t.Errorf("%d pairs: the need is %d; want %d", c.pairs, got, c.need)
		}
	}
}

func TestStatusChangesNothing(t *testing.T) {
	// Two pools are asked the same; of one the Status is asked behind each order.
	s := shape{slow: 20, fast: 6, size: 1, pages: 64, ids: 4, places: 30}
	x := newMix(4, s.ids, s.places)
	one, other := s.filled(t, x), s.filled(t, x)
	for range 800 {
		o := x.next(one.twin)
		if one.lives(o); len(one.pool.Volumes()) > 17 {
			t.Fatal("too many volumes")
		}
		other.asked(o)
		for range 2 {
			other.pool.Status()
			other.pool.Volumes()
			other.pool.Chunk(1, 0)
			other.pool.Owners(1)
		}
	}
	if !slices.Equal(one.pool.Volumes(), other.pool.Volumes()) || one.pool.Status() != other.pool.Status() {
		t.Errorf("%+v; %+v", one.pool.Status(), other.pool.Status())
	}
	if one.meta.Image() != other.meta.Image() {
		t.Error("the meta devices differ")
	}
}

func TestChunkSpotAndOwnersOfWhatIsntThere(t *testing.T) {
	r := made(t, 8, 4, 2, 64)
	r.create(1, 3)
	r.write(1, 2, "a")
	for _, n := range append(ends(), 0, 2, 3, 17, 63, 64, 65) {
		if r.pool.Chunk(n, 1) != 0 || r.pool.Chunk(1, n) != 0 {
			t.Errorf("a chunk at %d", n)
		}
		if s, is := r.pool.Spot(n); is || s != (api.Spot{}) {
			t.Errorf("chunk %d is at %v", n, s)
		}
		if len(r.pool.Owners(n)) != 0 {
			t.Errorf("chunk %d has owners", n)
		}
	}
	if r.pool.Chunk(1, 1) != 1 {
		t.Error(r.pool.Chunk(1, 1))
	}
}

func TestAnswersAreNewMemory(t *testing.T) {
	r := made(t, 8, 4, 2, 64)
	r.create(1, 3)
	r.write(1, 2, "a")
	r.snap(1, 2)
	v := r.pool.Volumes()
	v[0].Size, v[1].Id = 60, 9
	o := r.pool.Owners(1)
	o[0], o[1] = api.Owner{}, api.Owner{}
	r.agrees()
	_ = append(v[:1], api.Volume{})
	_ = append(o[:1], api.Owner{})
	r.agrees()
}
