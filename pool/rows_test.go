package pool_test

import (
	"fmt"
	"testing"

	"tierce/api"
)

// Tests of P19.2 to P19.6: rows of any orders, each answered as by the twin, whose volumes are rows of sectors.

// shape is how great a pool is, and what is asked of it.
type shape struct {
	slow, fast, size, pages int
	ids, places             int
	full                    int // so many volumes are written whole ahead of all
	orders                  int
}

func (s shape) String() string {
	return fmt.Sprintf("%d+%dx%d of %d pages", s.slow, s.fast, s.size, s.pages)
}

// filled answers a rig of a pool of this shape.
func (s shape) filled(t testing.TB, x *mix) *rig {
	t.Helper()
	r := made(t, s.slow, s.fast, s.size, s.pages)
	for id := 1; id <= s.full; id++ {
		r.create(id, s.places)
		for at := range s.places {
			r.does(order{word: "write", id: id, at: at * s.size, data: x.letters(s.size)})
		}
	}
	return r
}

// shapes answers pools with much and with little room, of slots and of pages.
func shapes() []shape {
	return []shape{
		{slow: 12, fast: 6, size: 2, pages: 64, ids: 4, places: 6, orders: 1200},
		{slow: 4, fast: 3, size: 1, pages: 64, ids: 3, places: 5, orders: 1200},
		{slow: 2, fast: 2, size: 3, pages: 64, ids: 3, places: 3, orders: 800},
		{slow: 1, fast: 1, size: 2, pages: 64, ids: 3, places: 3, orders: 300},
		{slow: 1, fast: 5, size: 8, pages: 80, ids: 4, places: 3, orders: 800},
		{slow: 40, fast: 10, size: 4, pages: 64, ids: 16, places: 64, orders: 1500},
		{slow: 100, fast: 30, size: 1, pages: 70, ids: 5, places: 64, full: 1, orders: 1000},
		{slow: 200, fast: 30, size: 1, pages: 64, ids: 4, places: 64, full: 2, orders: 700},
		{slow: 30, fast: 256, size: 2, pages: 512, ids: 8, places: 40, full: 3, orders: 500},
	}
}

func TestAnyOrdersAreAnsweredAsByTheTwin(t *testing.T) {
	for i, s := range shapes() {
		t.Run(s.String(), func(t *testing.T) {
			x := newMix(int64(i), s.ids, s.places)
			r := s.filled(t, x)
			met := map[api.Errno]int{}
			for range s.orders {
				met[r.does(x.next(r.twin))]++
			}
			t.Log(met, r.twin.gen)
		})
	}
}
