package pool_test

import (
	"slices"
	"testing"

	"tierce/api"
	"tierce/pool"
)

// Tests of P19.2.

func TestNoPool(t *testing.T) {
	var p *pool.Pool
	r := &rig{t: t, pool: p}
	for _, o := range anyOrders() {
		if o.word == "decay" {
			p.Decay()
			continue
		}
		if s, e := r.asked(o); s != "" || e != api.ErrNil {
			t.Errorf("%+v of nil: %q, %d", o, s, e)
		}
	}
	if p.Status() != (pool.Status{}) || len(p.Volumes()) != 0 || len(p.Owners(1)) != 0 {
		t.Error("nil has something")
	}
	for _, n := range append(ends(), 0, 1) {
		if s, is := p.Spot(n); is || s != (api.Spot{}) || p.Chunk(n, 0) != 0 || p.Chunk(1, n) != 0 {
			t.Error("nil has something at", n)
		}
	}
}

func TestCreateTakesIdsAndSizesWithinTheLimits(t *testing.T) {
	r := made(t, 4, 4, 2, 64)
	for _, n := range append(ends(), 0, 17, 18) {
		r.wants(api.ErrArg, order{word: "create", id: n, size: 1})
	}
	for _, n := range append(ends(), 65, 66) {
		r.wants(api.ErrArg, order{word: "create", id: 1, size: n})
	}
	for size := range maxSize + 1 {
		r.create(1+size%maxVolumes, size)
		r.delete(1 + size%maxVolumes)
	}
	for id := 1; id <= maxVolumes; id++ {
		r.create(id, id)
		r.wants(api.ErrDup, order{word: "create", id: id, size: 3})
		r.wants(api.ErrArg, order{word: "create", id: id, size: 65})
	}
	var want []api.Volume
	for id := 1; id <= maxVolumes; id++ {
		want = append(want, api.Volume{Id: id, Size: id})
	}
	if got := r.pool.Volumes(); !slices.Equal(got, want) {
		t.Errorf("%v; want %v", got, want)
	}
}

func TestACreatedVolumeIsZeros(t *testing.T) {
	r := made(t, 4, 4, 2, 64)
	r.create(1, 2)
	r.write(1, 0, "abcd")
	r.delete(1)
	r.create(1, 2)
	r.reads(1, 0, "\x00\x00\x00\x00")
	if got := r.pool.Status(); got.Chunks != 0 {
		t.Errorf("%+v", got)
	}
}

func TestDelete(t *testing.T) {
	r := made(t, 4, 2, 2, 64)
	for _, n := range append(ends(), 0, 1, 16, 17) {
		r.wants(api.ErrMiss, order{word: "delete", id: n})
	}
	r.create(1, 4)
	r.write(1, 0, "abcd")
	r.snap(1, 2)
	r.write(2, 0, "x")
	r.delete(1)
	r.wants(api.ErrMiss, order{word: "delete", id: 1})
	// Chunk 1 was the first volume's alone; chunk 2 is the snap's too.
	if _, is := r.pool.Spot(1); is || r.pool.Chunk(1, 1) != 0 {
		t.Error("chunk 1 is there")
	}
	if got, want := r.pool.Owners(2), []api.Owner{{Volume: 2, Birth: 2, At: 1}}; !slices.Equal(got, want) {
		t.Errorf("%v; want %v", got, want)
	}
	r.reads(2, 0, "xbcd")
	// The number and the slot of a chunk that no commit knows come again at once.
	r.write(2, 4, "y")
	if spot, is := r.pool.Spot(1); !is || spot != (api.Spot{}) || r.pool.Chunk(2, 2) != 1 {
		t.Error(spot, is)
	}
	r.flush()
	room := r.pool.Status().Room
	r.delete(2)
	if got := r.pool.Status(); got.Room != room || got.Chunks != 0 {
		t.Errorf("%+v; the room was %d", got, room)
	}
	r.flush()
	if got := r.pool.Status(); got.Room != 4 {
		t.Errorf("%+v", got)
	}
}

func TestDeleteIsntMadeReadyFor(t *testing.T) {
	r := scarce(t)
	for _, id := range []int{3, 4} {
		if gen := r.pool.Status().Gen; r.does(order{word: "delete", id: id}) != api.OK || r.pool.Status().Gen != gen {
			t.Error(r.pool.Status())
		}
	}
}

// scarce answers a rig of a pool with so few pages, and so many chunks, that no change has room, with four volumes of 60 chunks and more.
func scarce(t *testing.T) *rig {
	t.Helper()
	s := shape{slow: 200, fast: 30, size: 1, pages: 64, ids: 4, places: 60}
	x := newMix(1, s.ids, s.places)
	r := s.filled(t, x)
	for id := 1; id <= 4; id++ {
		r.create(id, 60)
	}
	for at := range 240 {
		o := order{word: "write", id: 1 + at/60, at: at % 60, data: x.letters(1)}
		switch e := r.does(o); e {
		case api.OK:
		case api.ErrPages:
			return r
		default:
			t.Fatalf("%+v: %d", o, e)
		}
	}
	t.Fatal("there are pages enough")
	return nil
}

func TestChangesNeedPages(t *testing.T) {
	r := scarce(t)
	status := r.pool.Status()
	if status.Pages >= status.Need {
		t.Fatalf("%+v", status)
	}
	gen := status.Gen
	for _, o := range []order{
		{word: "create", id: 9, size: 1},
		{word: "snap", id: 1, to: 9},
		{word: "resize", id: 1, size: 60},
		{word: "write", id: 1, at: 0, data: secs("x")}, // in its place
		{word: "discard", id: 1, at: 0, n: 1},
		{word: "discard", id: 4, at: 59, n: 1}, // where nothing stands
	} {
		r.wants(api.ErrPages, o)
		if gen++; r.pool.Status().Gen != gen {
			t.Errorf("%+v: %+v", o, r.pool.Status())
		}
	}
	// What can't be is told ahead of that, and commits nothing.
	r.wants(api.ErrArg, order{word: "create", id: 17, size: 1})
	r.wants(api.ErrDup, order{word: "create", id: 1, size: 1})
	r.wants(api.ErrArg, order{word: "snap", id: 1, to: 17})
	r.wants(api.ErrDup, order{word: "snap", id: 1, to: 1})
	r.wants(api.ErrArg, order{word: "resize", id: 1, size: 65})
	r.wants(api.ErrRange, order{word: "write", id: 1, at: 60, data: secs("x")})
	r.wants(api.ErrArg, order{word: "write", id: 1, data: "x"})
	r.wants(api.ErrRange, order{word: "discard", id: 1, at: 60, n: 1})
	r.pin(1, true)
	r.touch(1, 0, 1)
	r.ticks(4)
	if r.pool.Status().Gen != gen {
		t.Errorf("%+v", r.pool.Status())
	}
	r.flush()
	r.delete(2)
	r.wants(api.OK, order{word: "write", id: 1, at: 0, data: secs("x")})
}

// pressed answers a rig of a pool with too few pages for a change, till all is committed.
func pressed(t *testing.T) *rig {
	r := made(t, 200, 30, 1, 64)
	fill := func(id int) {
		t.Helper()
		r.create(id, 40)
		for at := range 40 {
			r.write(id, at, "x")
		}
	}
	fill(1)
	fill(2)
	r.flush()
	// The pages of maps that the last commit needs, and nobody else, are free by the next one.
	r.delete(1)
	fill(1)
	for n := 0; r.pool.Status().Pages >= r.pool.Status().Need; n++ {
		if at := n / 2; n%2 == 0 {
			r.discard(2, at, 1)
		} else {
			r.write(2, at, "y")
		}
	}
	return r
}

func TestAChangeCommitsForWantOfPages(t *testing.T) {
	for _, o := range []order{
		{word: "create", id: 9, size: 1},
		{word: "snap", id: 1, to: 9},
		{word: "resize", id: 1, size: 3},
		{word: "write", id: 1, at: 0, data: secs("x")},
		{word: "discard", id: 1, at: 0, n: 1},
	} {
		r := pressed(t)
		r.wants(api.OK, o)
		if got := r.pool.Status(); got.Gen != 3 || got.Pages < got.Need {
			t.Errorf("%+v: %+v", o, got)
		}
	}
}

func TestSnap(t *testing.T) {
	r := made(t, 6, 4, 2, 64)
	for _, n := range append(ends(), 0, 1, 16, 17) {
		r.wants(api.ErrMiss, order{word: "snap", id: n, to: 2})
		r.wants(api.ErrMiss, order{word: "snap", id: 1, to: n})
	}
	r.create(1, 3)
	r.pin(1, true)
	r.write(1, 1, "abcd")
	for _, n := range append(ends(), 0, 17) {
		r.wants(api.ErrArg, order{word: "snap", id: 1, to: n})
	}
	r.wants(api.ErrDup, order{word: "snap", id: 1, to: 1})
	r.snap(1, 16)
	r.wants(api.ErrDup, order{word: "snap", id: 1, to: 16})
	v := r.pool.Volumes()
	if len(v) != 2 || v[1] != (api.Volume{Id: 16, Size: 3, Root: v[0].Root, From: 1}) {
		t.Errorf("%v", v)
	}
	for at := range 3 {
		chunk := r.pool.Chunk(1, at)
		want := []api.Owner{{Volume: 1, Birth: 1, At: at}, {Volume: 16, Birth: 2, At: at}}
		if chunk == 0 {
			want = nil
		}
		if got := r.pool.Owners(chunk); r.pool.Chunk(16, at) != chunk || !slices.Equal(got, want) {
			t.Errorf("chunk %d: %v; want %v", chunk, got, want)
		}
	}
	r.reads(16, 0, "\x00abc")
	// A snap of a snap; the one between goes.
	r.snap(16, 3)
	r.write(16, 1, "x")
	r.delete(16)
	r.reads(3, 0, "\x00abc")
	r.reads(1, 0, "\x00abc")
	if v := r.pool.Volumes(); v[1].From != 16 {
		t.Error(v)
	}
}

func TestResize(t *testing.T) {
	r := made(t, 9, 4, 2, 64)
	for _, n := range append(ends(), 0, 1, 17) {
		r.wants(api.ErrMiss, order{word: "resize", id: n, size: 65})
	}
	r.create(1, 5)
	for _, n := range append(ends(), 65) {
		r.wants(api.ErrArg, order{word: "resize", id: 1, size: n})
	}
	r.write(1, 0, "abcd")
	r.write(1, 6, "efgh")
	r.snap(1, 2)
	r.resize(1, 4)
	r.reads(1, 4, "\x00\x00ef")
	r.wants(api.ErrRange, order{word: "read", id: 1, at: 5, n: 4})
	// What was let go doesn't come again.
	r.resize(1, 5)
	r.reads(1, 6, "ef\x00\x00")
	r.reads(2, 6, "efgh")
	if got, want := r.pool.Owners(r.pool.Chunk(2, 4)), []api.Owner{{Volume: 2, Birth: 2, At: 4}}; !slices.Equal(got, want) {
		t.Errorf("%v; want %v", got, want)
	}
	r.resize(1, 0)
	r.resize(2, 64)
	if got := r.pool.Status(); got.Chunks != 4 {
		t.Errorf("%+v", got)
	}
	r.resize(2, 1)
	if got := r.pool.Status(); got.Chunks != 1 {
		t.Errorf("%+v", got)
	}
	r.reads(2, 0, "ab")
	r.resize(2, 0)
	r.wants(api.ErrRange, order{word: "read", id: 2, at: 0, n: 1})
	for size := range maxSize + 1 {
		r.resize(1, size)
		r.resize(2, maxSize-size)
	}
}

func TestPin(t *testing.T) {
	r := made(t, 6, 4, 2, 64)
	for _, n := range append(ends(), 0, 1, 17) {
		r.wants(api.ErrMiss, order{word: "pin", id: n, pin: true})
		r.wants(api.ErrMiss, order{word: "pin", id: n})
	}
	r.create(1, 2)
	for _, is := range []bool{false, true, true, false, false, true} {
		r.pin(1, is)
		if v := r.pool.Volumes(); v[0].Pinned != is {
			t.Error(v)
		}
	}
	r.flush()
	r.pin(1, false)
	r.lost(all)
	r.comesBack(order{})
	if v := r.pool.Volumes(); !v[0].Pinned {
		t.Error(v)
	}
}

func TestEachVolumeHasABirthOfItsOwn(t *testing.T) {
	r := made(t, 20, 4, 1, 64)
	births := map[int]int{}
	for i, id := range []int{5, 3, 5, 16, 3, 1} {
		if r.twin.vols[id] != nil {
			r.delete(id)
		}
		// What isn't done has no birth.
		r.wants(api.ErrArg, order{word: "create", id: 17, size: 1})
		r.create(id, 1)
		r.wants(api.ErrDup, order{word: "create", id: id, size: 1})
		births[id] = i + 1
		r.write(id, 0, "x")
	}
	r.wants(api.ErrDup, order{word: "snap", id: 1, to: 3})
	r.snap(1, 2)
	births[2] = 7
	for id, birth := range births {
		o := r.pool.Owners(r.pool.Chunk(id, 0))
		if !slices.Contains(o, api.Owner{Volume: id, Birth: birth}) {
			t.Errorf("volume %d: %v; want the birth %d", id, o, birth)
		}
	}
}
