package pool_test

import (
	"fmt"
	"math/rand"
	"slices"
	"strings"
	"testing"

	"tierce/api"
	"tierce/disc"
	"tierce/mains"
	"tierce/pool"
)

// Tests of P19.7, and of ErrDown: the power goes at any use.

// lives asks as does does, but for the power: false, if the answer is ErrDown. It looks at nothing else, so that many rows can be run.
func (r *rig) lives(o order) bool {
	r.t.Helper()
	s, e := r.asked(o)
	if e == api.ErrDown {
		if s != "" {
			r.t.Fatalf("%+v: ErrDown, and %s", o, short(s))
		}
		return false
	}
	want, f := r.twin.do(o)
	if s != want || e != f {
		r.t.Fatalf("%+v: %s, %d; want %s, %d", o, short(s), e, short(want), f)
	}
	return true
}

// commits tells which orders may commit.
func commits(word string) bool {
	return slices.Contains([]string{"flush", "create", "snap", "resize", "write", "discard"}, word)
}

// comesBack fails the test, unless the devices, once the power went in the midst of an order, and came, have a pool that is as at the last commit, or at the one that was at work, but for sectors that were written since.
func (r *rig) comesBack(o order) {
	r.t.Helper()
	p, e := pool.Open(r.slow, r.fast, r.meta)
	if e != api.OK {
		r.t.Fatalf("Open behind %+v: %d", o, e)
	}
	base, may := r.twin.base, r.twin.since
	if gen := p.Status().Gen; gen != r.twin.gen {
		if gen != r.twin.gen+1 || !commits(o.word) {
			r.t.Fatalf("behind %+v: Gen %d; it was %d", o, gen, r.twin.gen)
		}
		base, may = r.twin.copy(), values{}
		if o.word != "flush" {
			base.nodes.sweep(base.live())
			base.stop()
		}
		base.commit()
	}
	r.twin.speaks(may, o)
	w := base.reopened()
	r.opens(w)
	for id, v := range w.vols {
		was := base.vols[id]
		for at, s := range v.row {
			if s != was.row[at] && !may[spoken{was.birth, at}][s] {
				r.t.Fatalf("behind %+v: sector %d of %d: %s; it was %s, and %d others were written", o, at, id, short(s), short(was.row[at]), len(may[spoken{was.birth, at}]))
			}
		}
	}
	w.isCommitted()
}

// isDown fails the test, unless all calls say ErrDown, whatever they are asked.
func (r *rig) isDown() {
	r.t.Helper()
	for _, o := range anyOrders() {
		if o.word == "decay" {
			continue
		}
		if s, e := r.asked(o); e != api.ErrDown || s != "" {
			r.t.Fatalf("%+v behind ErrDown: %s, %d", o, short(s), e)
		}
	}
}

// anyOrders answers orders of each word, with numbers that can be, and that can't.
func anyOrders() []order {
	var list []order
	for _, n := range append(ends(), 0, 1, 2, 17, 65) {
		for _, word := range []string{"create", "delete", "snap", "resize", "pin", "read", "write", "discard", "flush", "tick", "decay"} {
			list = append(list, order{word: word, id: n, to: 2, size: 1, n: 1, data: zeros(1)})
			list = append(list, order{word: word, id: 1, to: n, size: n, at: n, n: n, pick: n, data: "x"})
		}
	}
	return list
}

// kept answers which of the loose sectors stay, as chance has it: often none, or all.
func kept(chance *rand.Rand) [3]string {
	var keep [3]string
	for i := range keep {
		switch chance.Intn(4) {
		case 0:
		case 1:
			keep[i] = "\xff"
		default:
			b := make([]byte, 1+chance.Intn(3))
			chance.Read(b)
			keep[i] = string(b)
		}
	}
	return keep
}

// script answers a row of orders, and how often the power is used for them.
func script(t *testing.T, s shape, seed int64) ([]order, int) {
	t.Helper()
	x := newMix(seed, s.ids, s.places)
	r := s.filled(t, x)
	r.twin.uses, r.before = 0, r.power.Uses()
	var list []order
	for range s.orders {
		o := x.next(r.twin)
		list = append(list, o)
		r.does(o)
	}
	return list, r.twin.uses
}

func TestWhereverThePowerGoesAllIsAsAtACommit(t *testing.T) {
	for i, s := range []shape{
		{slow: 5, fast: 3, size: 2, pages: 64, ids: 3, places: 4, orders: 60},
		{slow: 3, fast: 2, size: 1, pages: 64, ids: 3, places: 4, orders: 60},
		{slow: 8, fast: 4, size: 3, pages: 64, ids: 4, places: 5, full: 2, orders: 40},
		{slow: 2, fast: 6, size: 4, pages: 64, ids: 4, places: 4, full: 1, orders: 40},
	} {
		for seed := range int64(4) {
			t.Run(fmt.Sprint(s, "/", seed), func(t *testing.T) {
				seed := seed + 100*int64(i)
				list, uses := script(t, s, seed)
				chance := rand.New(rand.NewSource(seed))
				for fuse := range uses + 1 {
					blackout(t, s, seed, list, fuse, kept(chance))
				}
			})
		}
	}
}

// blackout asks a script of a new pool with a fuse, lets the power come, and asks the rest of it.
func blackout(t *testing.T, s shape, seed int64, list []order, fuse int, keep [3]string) {
	t.Helper()
	r := s.filled(t, newMix(seed, s.ids, s.places))
	r.power.Fuse(fuse)
	before := r.power.Uses()
	for i, o := range list {
		if r.lives(o) {
			continue
		}
		r.isDown()
		r.lost(keep)
		r.isDown()
		r.comesBack(o)
		for _, o := range list[i:] {
			r.does(o)
		}
		r.flush()
		r.reopens()
		return
	}
	r.agrees()
	if uses := r.power.Uses() - before; uses > fuse {
		t.Fatalf("%d uses with a fuse of %d", uses, fuse)
	}
}

func TestThePowerGoesAgainAndAgain(t *testing.T) {
	for i, s := range []shape{
		{slow: 12, fast: 6, size: 2, pages: 64, ids: 4, places: 6, orders: 4000},
		{slow: 4, fast: 3, size: 1, pages: 64, ids: 3, places: 5, orders: 4000},
		{slow: 60, fast: 20, size: 3, pages: 64, ids: 6, places: 64, full: 1, orders: 1000},
		{slow: 150, fast: 30, size: 1, pages: 64, ids: 4, places: 64, full: 2, orders: 600},
	} {
		t.Run(s.String(), func(t *testing.T) {
			x := newMix(int64(i)+50, s.ids, s.places)
			r := s.filled(t, x)
			losses := 0
			for range s.orders {
				if x.chance.Intn(20) == 0 {
					r.power.Fuse(x.chance.Intn(60))
				}
				o := x.next(r.twin)
				if r.lives(o) {
					continue
				}
				losses++
				r.lost(kept(x.chance))
				r.comesBack(o)
			}
			r.agrees()
			t.Log(losses, "losses")
		})
	}
}

func TestWhatIsntFlushedIsLost(t *testing.T) {
	r := made(t, 8, 4, 2, 64)
	r.create(1, 4)
	r.write(1, 0, "abc")
	r.flush()
	r.snap(1, 2)
	r.write(1, 1, "BCDE")
	r.discard(1, 6, 2)
	r.resize(1, 5)
	r.pin(1, true)
	r.create(3, 1)
	r.lost(nothing)
	r.comesBack(order{})
	r.reads(1, 0, "abc\x00")
	if v := r.pool.Volumes(); len(v) != 1 || v[0].Size != 4 || v[0].Pinned {
		t.Error(v)
	}
}

func TestWhatIsKeptIsOfSectorsOfTheLastCommitsChunks(t *testing.T) {
	r := made(t, 8, 4, 2, 64)
	r.create(1, 4)
	r.write(1, 0, "abc")
	r.flush()
	r.write(1, 1, "BCD") // b and c in their chunks; at no place ahead of D a new one
	r.snap(1, 2)
	r.write(1, 0, "A") // a chunk of its own, which the last commit doesn't know
	r.lost(all)
	r.comesBack(order{})
	r.reads(1, 0, "aBCD")
	r.reads(1, 4, "\x00\x00")
}

// halves answers what of a commit's uses come ahead of the head, and how many there are: two flushes, the new pages, a flush, then the head, a flush.
func halves(r *rig) (int, int) {
	c := r.twin.copy()
	c.commit()
	uses := c.uses - r.twin.uses
	return uses - 2, uses
}

func TestACommitIsThereWithItsHead(t *testing.T) {
	for fuse := range 100 {
		for _, keep := range [][3]string{nothing, all} {
			r := made(t, 8, 4, 2, 64)
			r.create(1, 4)
			r.write(1, 0, "abc")
			r.flush()
			r.write(1, 0, "xyz")
			r.write(1, 7, "w")
			head, uses := halves(r)
			r.power.Fuse(fuse)
			isDown := !r.lives(order{word: "flush"})
			if isDown != (fuse < uses) {
				t.Fatalf("%d uses of %d: %v", fuse, uses, isDown)
			}
			if !isDown {
				r.agrees()
				continue
			}
			r.lost(keep)
			r.comesBack(order{word: "flush"})
			isThere := fuse > head && keep == all
			if got := r.pool.Status().Gen == 3; got != isThere {
				t.Errorf("%d uses of %d, %q kept: Gen %d", fuse, uses, keep, r.pool.Status().Gen)
			}
			if isThere {
				r.reads(1, 0, "xyz\x00")
				r.reads(1, 4, "\x00\x00\x00w")
			}
		}
	}
}

func TestBehindErrDownAllCallsAreErrDown(t *testing.T) {
	for _, o := range []order{
		{word: "write", id: 1, data: secs("x")},
		{word: "write", id: 1, at: 4, data: secs("xx")},
		{word: "read", id: 1, n: 1},
		{word: "discard", id: 1, n: 1},
		{word: "flush"},
		{word: "tick"},
	} {
		r := made(t, 8, 4, 2, 64)
		r.create(1, 4)
		r.write(1, 0, "ab")
		r.pin(1, true)
		r.flush()
		r.tick(0)
		r.power.Cut()
		if s, e := r.asked(o); s != "" || e != api.ErrDown {
			t.Errorf("%+v without power: %s, %d", o, short(s), e)
		}
		r.isDown()
		r.power.Come()
		r.isDown()
	}
}

func TestAnyDeviceMaySayErrDown(t *testing.T) {
	for _, c := range []struct {
		device int // 0: slow, 1: fast, 2: meta
		o      order
	}{
		{0, order{word: "read", id: 1, n: 1}},
		{0, order{word: "write", id: 1, data: secs("x")}},
		{0, order{word: "flush"}},
		{1, order{word: "flush"}},
		{2, order{word: "flush"}},
		{1, order{word: "tick"}},
		{0, order{word: "tick"}},
		{2, order{word: "read", id: 1, n: 1}},
		{2, order{word: "create", id: 2, size: 1}},
		{2, order{word: "snap", id: 1, to: 2}},
		{2, order{word: "resize", id: 1, size: 0}},
		{2, order{word: "write", id: 1, data: secs("x")}},
		{2, order{word: "discard", id: 1, n: 2}},
		{2, order{word: "delete", id: 1}},
	} {
		power := []*mains.Mains{mains.New(), mains.New(), mains.New()}
		p, e := pool.Format(disc.New(power[0], 8), disc.New(power[1], 8), disc.New(power[2], minPages*pageSecs), 2)
		if e != api.OK {
			t.Fatal(e)
		}
		r := &rig{t: t, pool: p}
		for _, e := range []api.Errno{p.Create(1, 3), p.Write(1, 0, secs("ab")), p.Flush(), p.Pin(1, true), p.Tick(0)} {
			if e != api.OK {
				t.Fatal(e)
			}
		}
		power[c.device].Cut()
		if s, e := r.asked(c.o); s != "" || e != api.ErrDown {
			t.Errorf("%+v without the power of %d: %s, %d", c.o, c.device, short(s), e)
		}
		r.isDown()
	}
}

func TestFormatWithoutPower(t *testing.T) {
	for fuse := range 5 {
		m := mains.New()
		slow, fast, meta := disc.New(m, 8), disc.New(m, 8), disc.New(m, minPages*pageSecs)
		m.Fuse(fuse)
		p, e := pool.Format(slow, fast, meta, 2)
		// Two sectors and a flush.
		if (e == api.OK) != (fuse >= 3) || (p != nil) != (fuse >= 3) || e != api.OK && e != api.ErrDown {
			t.Errorf("%d uses: %v, %d", fuse, p != nil, e)
		}
	}
}

func TestOpenWithoutPower(t *testing.T) {
	r := made(t, 8, 4, 2, 64)
	r.power.Cut()
	if p, e := pool.Open(r.slow, r.fast, r.meta); p != nil || e != api.ErrDown {
		t.Error(p != nil, e)
	}
}

func TestWithDevicesThatNeverHadPower(t *testing.T) {
	slow, fast, meta := disc.New(nil, 8), disc.New(nil, 8), disc.New(nil, minPages*pageSecs)
	if p, e := pool.Format(slow, fast, meta, 2); p != nil || e == api.OK {
		t.Error("Format:", p != nil, e)
	}
	if p, e := pool.Open(slow, fast, meta); p != nil || e == api.OK {
		t.Error("Open:", p != nil, e)
	}
	// Where just the tiers have none all calls end, as orders of any kind do.
	p, e := pool.Format(slow, fast, disc.New(mains.New(), minPages*pageSecs), 2)
	if e != api.OK {
		t.Fatal(e)
	}
	r := &rig{t: t, pool: p}
	for range 3 {
		for _, o := range anyOrders() {
			r.asked(o)
		}
		for _, id := range []int{1, 2} {
			p.Write(id, 0, strings.Repeat("x", 32))
			p.Status()
		}
	}
}
