package pool_test

import (
	"testing"

	"tierce/disc"
	"tierce/leaf"
	"tierce/pool"
)

// Tests of P1: where somebody else writes to a pool's devices, nothing is promised but that all calls end.

// asksAll asks orders of pools by turns, and all that they tell.
func asksAll(x *mix, w *twin, pools []*pool.Pool, orders int) {
	for range orders {
		p := pools[x.chance.Intn(len(pools))]
		(&rig{pool: p}).asked(x.next(w))
		p.Status()
		p.Volumes()
		p.Spot(x.chance.Intn(20))
		p.Owners(x.chance.Intn(20))
		p.Chunk(1+x.chance.Intn(4), x.chance.Intn(8))
	}
}

func TestTwoPoolsOnTheSameDevicesEnd(t *testing.T) {
	for seed := range int64(30) {
		s := shape{slow: 8, fast: 4, size: 2, pages: 64, ids: 4, places: 8}
		x := newMix(seed, s.ids, s.places)
		r := s.filled(t, x)
		for range 40 {
			r.lives(x.next(r.twin))
		}
		r.flush()
		pools := []*pool.Pool{r.pool}
		for range 2 {
			if p, e := pool.Open(r.slow, r.fast, r.meta); e == 0 {
				pools = append(pools, p)
			}
		}
		asksAll(x, r.twin, pools, 400)
	}
}

func TestOneDeviceForAllEnds(t *testing.T) {
	for seed := range int64(30) {
		s := shape{slow: 8, fast: 4, size: 2, pages: 64, ids: 4, places: 8}
		x := newMix(seed, s.ids, s.places)
		r := s.filled(t, x)
		one := r.meta
		for _, devices := range [][3]*disc.Disc{{one, one, one}, {r.slow, r.slow, one}, {one, r.fast, one}} {
			if p, e := pool.Format(devices[0], devices[1], devices[2], 2); e == 0 {
				asksAll(x, r.twin, []*pool.Pool{p}, 200)
			}
		}
	}
}

func TestAMetaDeviceThatChangesEnds(t *testing.T) {
	for seed := range int64(60) {
		s := shape{slow: 8, fast: 4, size: 2, pages: 64, ids: 4, places: 40}
		x := newMix(seed, s.ids, s.places)
		r := s.filled(t, x)
		for range 60 {
			r.lives(x.next(r.twin))
		}
		for range 30 {
			// A page becomes another one, or nothing.
			from, to := 1+x.chance.Intn(12), 1+x.chance.Intn(12)
			text, _ := r.meta.Read(from*pageSecs, pageSecs)
			if l, e := leaf.Read(text); e == 0 && len(l.List) > 0 && x.chance.Intn(2) == 0 {
				l.List[x.chance.Intn(len(l.List))].Val ^= 1 << x.chance.Intn(5)
				if turned, e := leaf.Bytes(l); e == 0 {
					text = turned
				}
			}
			r.meta.Write(to*pageSecs, text)
			asksAll(x, r.twin, []*pool.Pool{r.pool}, 20)
		}
	}
}
