package pool_test

import (
	"fmt"
	"math"
	"math/rand"
	"slices"
	"strings"
	"testing"

	"tierce/api"
	"tierce/disc"
	"tierce/head"
	"tierce/leaf"
	"tierce/mains"
	"tierce/place"
	"tierce/pool"
	"tierce/reach"
	"tierce/store"
	"tierce/tree"
	"tierce/vols"

	charts "tierce/maps"
)

// Tests of P19.1.

func TestFormatOfNoDevice(t *testing.T) {
	m := mains.New()
	d := disc.New(m, minPages*pageSecs)
	for _, devices := range [][3]*disc.Disc{{nil, d, d}, {d, nil, d}, {d, d, nil}, {}} {
		for _, size := range []int{2, 0, -1} {
			if p, e := pool.Format(devices[0], devices[1], devices[2], size); p != nil || e != api.ErrNil {
				t.Errorf("Format of nil: %v, %d", p != nil, e)
			}
		}
		if p, e := pool.Open(devices[0], devices[1], devices[2]); p != nil || e != api.ErrNil {
			t.Errorf("Open of nil: %v, %d", p != nil, e)
		}
	}
	if m.Uses() != 0 {
		t.Error(m.Uses())
	}
}

func TestFormatTakesWhatLayer18AndMinPagesTake(t *testing.T) {
	sizes := append(ends(), 0, 1, 2, 3, 7, 8, 9)
	for _, c := range []struct{ slow, fast, meta int }{
		{0, 8, 1024}, {8, 0, 1024}, {1, 8, 1024}, {8, 1, 1024}, {7, 8, 1024}, {8, 7, 1024}, {8, 8, 1024}, {9, 100, 1030},
		{8, 8, 0}, {8, 8, 16}, {8, 8, 1008}, {8, 8, 1023}, {16384, 16384, 16384}, {2049, 3000, 8192},
	} {
		for _, size := range sizes {
			m := mains.New()
			slow, fast, meta := disc.New(m, c.slow), disc.New(m, c.fast), disc.New(m, c.meta)
			p, e := pool.Format(slow, fast, meta, size)
			can := size >= 1 && size <= maxChunk && c.slow >= size && c.fast >= size && c.meta/pageSecs >= minPages
			if !can {
				if p != nil || e != api.ErrArg || m.Uses() != 0 {
					t.Errorf("%+v, size %d: %v, %d, %d uses", c, size, p != nil, e, m.Uses())
				}
				continue
			}
			if e != api.OK {
				t.Errorf("%+v, size %d: %d", c, size, e)
				continue
			}
			slots := [2]int{min(c.slow/size, maxSlots), min(c.fast/size, maxSlots)}
			st, e := store.Open(meta)
			if want := (api.Head{Gen: 1, Slots: slots, Chunk: size}); e != api.OK || st.Head() != want {
				t.Errorf("%+v, size %d: head %v; want %v", c, size, st.Head(), want)
			}
			want := pool.Status{Room: slots[0] + slots[1] - 2, Pages: min(c.meta/pageSecs, maxPages) - 1, Need: 22, Gen: 1}
			if got := p.Status(); got != want || len(p.Volumes()) != 0 {
				t.Errorf("%+v, size %d: %+v; want %+v", c, size, got, want)
			}
		}
	}
}

func TestMinPages(t *testing.T) {
	if pool.MinPages != minPages {
		t.Error(pool.MinPages)
	}
}

func TestFormatForgetsThePoolThatWasThere(t *testing.T) {
	r := made(t, 8, 4, 2, 64)
	r.create(1, 4)
	r.write(1, 0, "abc")
	r.flush()
	r.flush()
	p, e := pool.Format(r.slow, r.fast, r.meta, 1)
	if e != api.OK || len(p.Volumes()) != 0 || p.Status().Gen != 1 {
		t.Fatal(e)
	}
	r.lost(nothing)
	p, e = pool.Open(r.slow, r.fast, r.meta)
	if e != api.OK || len(p.Volumes()) != 0 || p.Status().Gen != 1 || p.Status().Room != 16+8-2 {
		t.Fatal(e)
	}
}

func TestOpenOfNoStore(t *testing.T) {
	m := mains.New()
	d := disc.New(m, 100)
	for _, meta := range []*disc.Disc{disc.New(m, 0), disc.New(m, 16), disc.New(m, 31), disc.New(m, 32), disc.New(m, 1024)} {
		if p, e := pool.Open(d, d, meta); p != nil || e != api.ErrForm {
			t.Errorf("%d sectors: %v, %d", meta.Len(), p != nil, e)
		}
	}
}

func TestOpenTellsWhatWasCommitted(t *testing.T) {
	r := made(t, 6, 4, 2, 64)
	r.create(9, 3)
	r.create(4, 2)
	r.snap(9, 12)
	r.write(9, 0, "abcd")
	r.snap(9, 1)
	r.delete(4)
	r.pin(12, true)
	r.write(12, 5, "z")
	r.touch(9, 0, 3)
	r.tick(0)
	r.flush()
	r.reopens()
	want := []api.Volume{{Id: 1, Size: 3, From: 9}, {Id: 9, Size: 3}, {Id: 12, Size: 3, Pinned: true, From: 9}}
	got := r.pool.Volumes()
	for i := range got {
		got[i].Root = 0
	}
	if !slices.Equal(got, want) {
		t.Errorf("%v; want %v", got, want)
	}
	// Births by Id, from 1 on.
	if got, want := r.pool.Owners(r.pool.Chunk(9, 1)), []api.Owner{{Volume: 1, Birth: 1, At: 1}, {Volume: 9, Birth: 2, At: 1}}; !slices.Equal(got, want) {
		t.Errorf("%v; want %v", got, want)
	}
	if r.pool.Status().Moving {
		t.Error("a chunk is on its way")
	}
	// What is heated anew: two uses aren't enough by those ahead of the loss.
	r.pin(12, false)
	r.touch(9, 0, 1)
	r.tick(0)
	if r.pool.Status().Moving {
		t.Error("what was hot is hot still")
	}
	r.create(2, 1)
	r.write(2, 0, "x")
	if got, want := r.pool.Owners(r.pool.Chunk(2, 0)), []api.Owner{{Volume: 2, Birth: 4, At: 0}}; !slices.Equal(got, want) {
		t.Errorf("%v; want %v", got, want)
	}
	// A slot that the last commit needs isn't given to others ahead of the next one.
	room := r.pool.Status().Room
	r.delete(9)
	r.delete(1)
	if r.pool.Status().Room != room {
		t.Error(r.pool.Status(), room)
	}
	r.flush()
	if r.pool.Status().Room != room+2 {
		t.Error(r.pool.Status(), room)
	}
}

// Devices made by hand.

// craft is what a meta device tells; each of its parts may be none's.
type craft struct {
	slots  [2]int
	chunk  int
	pages  int
	vols   []api.Volume // the Roots are those of charts, where there are some
	charts [][]api.Pair // of each volume
	places []place.Place
	more   []api.Pair // more pairs of the root's tree, above all others
	less   bool       // without volumes
	shape  func(a *adder, list []api.Pair) int
	bend   func(a *adder, root int) int // another root in the place of the one that was made
	secs   [2]int                       // of the tiers' devices; 0: as many as the slots need
}

// adder is a store that tells which pages are new.
type adder struct {
	*store.Store
	pages []int
}

func (a *adder) Add(l api.Leaf) (int, api.Errno) {
	page, e := a.Store.Add(l)
	if e != api.OK {
		panic("a page too many")
	}
	a.pages = append(a.pages, page)
	return page, e
}

// build builds a tree of these pairs, as they are.
func build(a *adder, list []api.Pair) int {
	root, e := tree.Build(a, list)
	if e != api.OK {
		panic("no tree can be built")
	}
	return root
}

// devices answers a rig without a pool, with three devices as c tells.
func (c craft) devices(t testing.TB) *rig {
	t.Helper()
	m := mains.New()
	r := &rig{t: t, power: m, meta: disc.New(m, c.pages*pageSecs)}
	for tier := range c.secs {
		if c.secs[tier] == 0 {
			c.secs[tier] = c.slots[tier] * c.chunk
		}
	}
	r.slow, r.fast = disc.New(m, c.secs[0]), disc.New(m, c.secs[1])
	for tier, d := range []*disc.Disc{r.slow, r.fast} {
		for at := range d.Len() {
			d.Write(at, strings.Repeat(string(rune('a'+(7*at+tier)%26)), sectorSize))
		}
		d.Flush()
	}
	st, e := store.Format(r.meta, c.slots, c.chunk)
	if e != api.OK {
		t.Fatal(e)
	}
	a := &adder{Store: st}
	root := build(a, c.pairs(a))
	if c.bend != nil {
		root = c.bend(a, root)
	}
	if e := st.Commit(root, a.pages...); e != api.OK {
		t.Fatal(e)
	}
	return r
}

// pairs answers the pairs of the root's tree.
func (c craft) pairs(a *adder) []api.Pair {
	shape := c.shape
	if shape == nil {
		shape = build
	}
	var list []api.Pair
	for i, v := range c.vols {
		if i < len(c.charts) {
			v.Root = shape(a, c.charts[i])
		}
		p, e := vols.Pair(v)
		if e != api.OK {
			panic("no volume")
		}
		if !c.less {
			list = append(list, p)
		}
	}
	for _, x := range c.places {
		p, e := place.Pair(x)
		if e != api.OK {
			panic("no place")
		}
		list = append(list, p)
	}
	list = append(list, c.more...)
	slices.SortFunc(list, func(a, b api.Pair) int {
		if a.Key < b.Key {
			return -1
		}
		return 1
	})
	return list
}

// plain answers a craft that is a pool: two volumes, two chunks, of which they share one.
func plain() craft {
	return craft{
		slots: [2]int{5, 3}, chunk: 2, pages: 64,
		vols:   []api.Volume{{Id: 2, Size: 4}, {Id: 9, Size: 2, Pinned: true, From: 2}},
		charts: [][]api.Pair{{{Key: 0, Val: 7}, {Key: 3, Val: 5}}, {{Key: 1, Val: 7}}},
		places: []place.Place{{Chunk: 5, Spot: api.Spot{Tier: fast, Slot: 2}}, {Chunk: 7, Spot: api.Spot{Tier: slow, Slot: 4}}},
	}
}

// loaded answers the twin of what devices tell, that are a pool's.
func loaded(t testing.TB, meta *disc.Disc) *twin {
	t.Helper()
	st, e := store.Open(meta)
	if e != api.OK {
		t.Fatal(e)
	}
	h := st.Head()
	w := newTwin(h.Slots[0], h.Slots[1], h.Chunk, meta.Len()/pageSecs)
	w.gen = int(h.Gen)
	list, _ := vols.List(st, h.Root)
	for _, v := range list {
		one := &vol{Volume: v}
		w.stretch(one)
		w.vols[v.Id] = one
		entries, _ := charts.List(st, v.Root)
		for _, entry := range entries {
			one.chunks[entry.At] = entry.Chunk
		}
	}
	places, _ := place.List(st, h.Root)
	for _, x := range places {
		w.spots[x.Chunk] = x.Spot
	}
	pages, e := reach.Pages(st, append(w.roots(), h.Root)...)
	if e != api.OK {
		t.Fatal(e)
	}
	for _, page := range pages {
		w.nodes.list[page], _ = st.Read(page)
	}
	w.nodes.committed = setOf(pages)
	return w.reopened()
}

func TestOpenOfDevicesMadeByHand(t *testing.T) {
	r := plain().devices(t)
	r.opens(loaded(t, r.meta))
	want := []api.Owner{{Volume: 2, Birth: 1, At: 0}, {Volume: 9, Birth: 2, At: 1}}
	if got := r.pool.Owners(7); !slices.Equal(got, want) {
		t.Errorf("Owners: %v; want %v", got, want)
	}
	if got := r.pool.Status(); got != (pool.Status{Chunks: 2, Room: 4, Pages: 63 - 3, Need: 22, Waits: 1, Gen: 2}) {
		t.Errorf("%+v", got)
	}
	// The chunk 7 has the slow device's sectors 8 and 9, the chunk 5 the fast one's 4 and 5.
	r.reads(2, 0, "el\x00\x00")
	r.reads(2, 4, "\x00\x00dk")
	r.reads(9, 0, "\x00\x00el")
}

func TestOpenTakesWhatHangsTogether(t *testing.T) {
	for name, change := range map[string]func(c *craft){
		"nothing":                           func(c *craft) {},
		"no volumes":                        func(c *craft) { c.vols, c.charts, c.places = nil, nil, nil },
		"a volume without a map":            func(c *craft) { c.vols = append(c.vols, api.Volume{Id: 16, Size: 64, From: 16}) },
		"a volume of no chunks":             func(c *craft) { c.vols = append(c.vols, api.Volume{Id: 16, From: 3}) },
		"few pages":                         func(c *craft) { c.pages = 4 },
		"all pages":                         func(c *craft) { c.pages = maxPages },
		"greater devices":                   func(c *craft) { c.secs = [2]int{maxSectors, 7} },
		"a chunk at two places of a volume": func(c *craft) { c.charts[0] = append(c.charts[0][:1], api.Pair{Key: 2, Val: 7}, c.charts[0][1]) },
		"volumes that share a map": func(c *craft) {
			c.vols[1].Root = 1
			c.vols[1].Size = 64
			c.charts = c.charts[:1]
		},
		"the last slots": func(c *craft) {
			c.places[0].Spot.Slot, c.places[1].Spot.Slot = 2, 4
		},
		"a high map": func(c *craft) {
			c.shape = func(a *adder, list []api.Pair) int { return tall(a, list, 8, 1) }
		},
		"chunks of the greatest number": func(c *craft) {
			c.charts[0][0].Val, c.charts[1][0].Val, c.places[1].Chunk = maxChunks, maxChunks, maxChunks
		},
	} {
		t.Run(name, func(t *testing.T) {
			c := plain()
			change(&c)
			r := c.devices(t)
			r.opens(loaded(t, r.meta))
			x := newMix(int64(len(name)), 16, 8)
			for range 300 {
				r.does(x.next(r.twin))
			}
		})
	}
}

// tall answers the root of a tree of as many levels as are asked for, with so many pairs in each leaf: all nodes between these and the root have one pair.
func tall(a *adder, list []api.Pair, levels, each int) int {
	if len(list) <= each {
		return build(a, list)
	}
	top := api.Leaf{Level: levels - 1}
	for part := range slices.Chunk(list, each) {
		page := more(a, 0, part...)
		for level := 1; level < levels-1; level++ {
			page = more(a, level, api.Pair{Key: part[0].Key, Val: uint64(page)})
		}
		top.List = append(top.List, api.Pair{Key: part[0].Key, Val: uint64(page)})
	}
	return more(a, top.Level, top.List...)
}

func TestOpenTakesNothingElse(t *testing.T) {
	for name, change := range map[string]func(c *craft){
		"chunks greater than the slow device": func(c *craft) { c.secs[0] = 1 },
		"chunks greater than the fast device": func(c *craft) { c.secs[1] = 1 },
		"too few slots of the slow tier":      func(c *craft) { c.secs[0] = 9 },
		"too few slots of the fast tier":      func(c *craft) { c.secs[1] = 5 },
		"a root that isn't there": func(c *craft) {
			c.bend = func(a *adder, root int) int { return more(a, 0, api.Pair{Key: 1 << 32, Val: 9}) }
		},
		"a root of one pair": func(c *craft) {
			c.bend = func(a *adder, root int) int { return more(a, 1, api.Pair{Key: 1<<32 + 2, Val: uint64(root)}) }
		},
		"a root that leads to itself": func(c *craft) {
			c.bend = func(a *adder, root int) int {
				return more(a, 1, api.Pair{Key: 1<<32 + 2, Val: 4}, api.Pair{Key: 1 << 34, Val: 4})
			}
		},
		"a root without pairs":                func(c *craft) { c.bend = func(a *adder, root int) int { return more(a, 0) } },
		"a pair ahead of all":                 func(c *craft) { c.more = []api.Pair{{Key: 0, Val: 0}} },
		"a place's pair, of a map":            func(c *craft) { c.more = []api.Pair{{Key: 3, Val: 5}} },
		"the volume 0":                        func(c *craft) { c.more = []api.Pair{{Key: 1 << 32, Val: 0}} },
		"the volume 17":                       func(c *craft) { c.more = []api.Pair{{Key: 1<<32 + 17, Val: 0}} },
		"a volume of 65 chunks":               func(c *craft) { c.more = []api.Pair{{Key: 1<<32 + 16, Val: 65 << 16}} },
		"a volume with a map at 512":          func(c *craft) { c.more = []api.Pair{{Key: 1<<32 + 16, Val: 512}} },
		"a volume with other bits":            func(c *craft) { c.more = []api.Pair{{Key: 1<<32 + 16, Val: 1 << 33}} },
		"a volume from 17":                    func(c *craft) { c.more = []api.Pair{{Key: 1<<32 + 16, Val: 17 << 40}} },
		"between volumes and places":          func(c *craft) { c.more = []api.Pair{{Key: 1<<33 - 1, Val: 0}} },
		"a place of the chunk 0":              func(c *craft) { c.more = []api.Pair{{Key: 1 << 33, Val: 0}} },
		"a place of the chunk 1024":           func(c *craft) { c.more = []api.Pair{{Key: 1<<33 + 1024, Val: 0}} },
		"a place on the tier 2":               func(c *craft) { c.more = []api.Pair{{Key: 1<<33 + 9, Val: 2}} },
		"a place on the slot 256":             func(c *craft) { c.more = []api.Pair{{Key: 1<<33 + 9, Val: 256 << 8}} },
		"behind the places":                   func(c *craft) { c.more = []api.Pair{{Key: 1<<33 + 1<<32, Val: 0}} },
		"the greatest key":                    func(c *craft) { c.more = []api.Pair{{Key: math.MaxUint64, Val: 0}} },
		"a slot too far of the slow tier":     func(c *craft) { c.places[1].Spot.Slot = 5; c.secs = [2]int{100, 100} },
		"a slot too far of the fast tier":     func(c *craft) { c.places[0].Spot.Slot = 3; c.secs = [2]int{100, 100} },
		"two chunks at a spot":                func(c *craft) { c.places[0].Spot = c.places[1].Spot },
		"a map that isn't there":              func(c *craft) { c.charts, c.vols[0].Root, c.vols[1].Root = nil, 20, 20 },
		"a map beyond the pages":              func(c *craft) { c.charts, c.vols[0].Root, c.vols[1].Root = nil, 64, 511 },
		"a map that is the root's tree":       func(c *craft) { c.charts = c.charts[:1]; c.vols[1].Root = 2 },
		"a map with a place beyond the size":  func(c *craft) { c.vols[0].Size = 3 },
		"a map of a volume of no size":        func(c *craft) { c.vols[1].Size = 0 },
		"a map with the place 64":             func(c *craft) { c.vols[1].Size = 64; c.charts[1] = append(c.charts[1], api.Pair{Key: 64, Val: 5}) },
		"a map with a greater place":          func(c *craft) { c.charts[1] = append(c.charts[1], api.Pair{Key: 1 << 32, Val: 5}) },
		"a map with the chunk 0":              func(c *craft) { c.charts[1][0].Val = 0 },
		"a map with the chunk 1024":           func(c *craft) { c.charts[1][0].Val = 1024 },
		"a map with a number of many bits":    func(c *craft) { c.charts[1][0].Val = 1<<32 + 7 },
		"a map with a chunk without a place":  func(c *craft) { c.charts[1][0].Val = 6 },
		"places without maps":                 func(c *craft) { c.less = true },
		"a place without a map":               func(c *craft) { c.charts[0] = c.charts[0][:1] },
		"a place more":                        func(c *craft) { c.places = append(c.places, place.Place{Chunk: 8}) },
		"a map that isn't sound: no order":    func(c *craft) { c.shape = bent(0) },
		"a map that isn't sound: wrong level": func(c *craft) { c.shape = bent(1) },
		"a map that isn't sound: met twice":   func(c *craft) { c.shape = bent(2) },
	} {
		t.Run(name, func(t *testing.T) {
			c := plain()
			change(&c)
			r := c.devices(t)
			if p, e := pool.Open(r.slow, r.fast, r.meta); p != nil || e != api.ErrForm {
				t.Errorf("%v, %d", p != nil, e)
			}
		})
	}
}

// more adds a node of these pairs.
func more(a *adder, level int, list ...api.Pair) int {
	page, _ := a.Add(api.Leaf{Level: level, List: list})
	return page
}

// bent answers how a map is made that isn't sound.
func bent(how int) func(a *adder, list []api.Pair) int {
	return func(a *adder, list []api.Pair) int {
		if len(list) < 2 {
			return build(a, list)
		}
		low, high := more(a, 0, list[0]), more(a, 0, list[1])
		first, second := api.Pair{Key: list[0].Key, Val: uint64(low)}, api.Pair{Key: list[1].Key, Val: uint64(high)}
		switch how {
		case 0:
			second.Key--
			return more(a, 1, first, second)
		case 1:
			return more(a, 2, first, second)
		}
		second.Val = first.Val
		return more(a, 1, first, second)
	}
}

func TestOpenOfAHeadWhoseRootIsntThere(t *testing.T) {
	for _, root := range []int{40, 63, 64, 511} {
		r := plain().devices(t)
		text, e := head.Bytes(api.Head{Gen: 9, Root: root, Slots: plain().slots, Chunk: plain().chunk})
		if e != api.OK {
			t.Fatal(e)
		}
		r.meta.Write(0, text)
		if p, e := pool.Open(r.slow, r.fast, r.meta); p != nil || e != api.ErrForm {
			t.Errorf("root %d: %v, %d", root, p != nil, e)
		}
	}
}

func TestOpenOfAHeadWithoutRoot(t *testing.T) {
	m := mains.New()
	r := &rig{t: t, power: m, slow: disc.New(m, 8), fast: disc.New(m, 8), meta: disc.New(m, 64)}
	if _, e := store.Format(r.meta, [2]int{4, 3}, 2); e != api.OK {
		t.Fatal(e)
	}
	r.opens(loaded(t, r.meta))
	if got := r.pool.Status(); got != (pool.Status{Room: 5, Pages: 3, Need: 22, Gen: 1}) {
		t.Errorf("%+v", got)
	}
	// Three pages are too few for any change, but not for a commit.
	r.wants(api.ErrPages, order{word: "create", id: 1, size: 1})
	if r.pool.Status().Gen != 2 {
		t.Error(r.pool.Status())
	}
	r.flush()
}

// judge tells by the chapter's sentence whether devices are a pool's.
func judge(r *rig) bool {
	st, e := store.Open(r.meta)
	if e != api.OK {
		return false
	}
	h := st.Head()
	if r.slow.Len()/h.Chunk < h.Slots[0] || r.fast.Len()/h.Chunk < h.Slots[1] || tree.Check(st, h.Root) != api.OK {
		return false
	}
	all, _ := tree.Range(st, h.Root, 0, math.MaxUint64)
	list, e := vols.List(st, h.Root)
	places, f := place.List(st, h.Root)
	if e != api.OK || f != api.OK || len(list)+len(places) != len(all) || !place.Good(places, h.Slots) {
		return false
	}
	spots, stand := map[int]bool{}, map[int]bool{}
	for _, x := range places {
		spots[x.Chunk] = true
	}
	for _, v := range list {
		if tree.Check(st, v.Root) != api.OK {
			return false
		}
		entries, e := charts.List(st, v.Root)
		if e != api.OK || !charts.Good(entries, v.Size) {
			return false
		}
		for _, entry := range entries {
			stand[entry.Chunk] = true
		}
	}
	return sameSet(spots, stand)
}

// turn changes one thing on a meta device, such that its sum holds: a pair, a level, a head.
func turn(meta *disc.Disc, chance *rand.Rand) {
	st, _ := store.Open(meta)
	if chance.Intn(6) == 0 {
		turnHead(meta, st.Head(), chance)
		return
	}
	page := 1 + chance.Intn(min(st.Pages()-1, 25))
	l, e := st.Read(page)
	if e != api.OK || len(l.List) == 0 {
		return
	}
	p := &l.List[chance.Intn(len(l.List))]
	switch chance.Intn(8) {
	case 0:
		p.Key += uint64(chance.Intn(5)) - 2
	case 1:
		p.Val += uint64(chance.Intn(5)) - 2
	case 2:
		p.Val ^= 1 << chance.Intn(64)
	case 3:
		p.Key ^= 1 << chance.Intn(64)
	case 4:
		l.Level += chance.Intn(3) - 1
	case 5:
		l.List = l.List[:len(l.List)-1]
	case 6:
		p.Val = l.List[chance.Intn(len(l.List))].Val
	case 7:
		*p, _ = vols.Pair(api.Volume{Id: 1 + chance.Intn(16), Size: chance.Intn(65), Root: chance.Intn(30)})
		slices.SortFunc(l.List, func(a, b api.Pair) int { return int(int64(a.Key - b.Key)) })
	}
	if text, e := leaf.Bytes(l); e == api.OK {
		meta.Write(page*pageSecs, text)
		meta.Flush()
	}
}

func turnHead(meta *disc.Disc, h api.Head, chance *rand.Rand) {
	switch chance.Intn(4) {
	case 0:
		h.Root = chance.Intn(30)
	case 1:
		h.Slots[chance.Intn(2)] += chance.Intn(7) - 3
	case 2:
		h.Chunk = 1 + chance.Intn(8)
	case 3:
		h.Gen = math.MaxUint32 - uint64(chance.Intn(9))
		return // so great ones are for a test of their own
	}
	if text, e := head.Bytes(h); e == api.OK {
		meta.Write(0, text+text)
		meta.Flush()
	}
}

func TestOpenOfTurnedDevices(t *testing.T) {
	taken := 0
	for seed := range int64(16) {
		s := shape{slow: 10, fast: 5, size: 2, pages: 64, ids: 5, places: 20, orders: 60}
		x := newMix(seed, s.ids, s.places)
		r := s.filled(t, x)
		for range s.orders {
			r.lives(x.next(r.twin))
		}
		r.flush()
		images := [3]string{r.slow.Image(), r.fast.Image(), r.meta.Image()}
		for range 60 {
			m := mains.New()
			c := &rig{t: t, power: m, slow: disc.Of(m, images[0]), fast: disc.Of(m, images[1]), meta: disc.Of(m, images[2])}
			for range 1 + x.chance.Intn(2) {
				turn(c.meta, x.chance)
			}
			p, e := pool.Open(c.slow, c.fast, c.meta)
			if !judge(c) {
				if p != nil || e != api.ErrForm {
					t.Fatalf("it doesn't hang together: %v, %d", p != nil, e)
				}
				continue
			}
			if e != api.OK {
				t.Fatalf("it hangs together: %d", e)
			}
			taken++
			c.opens(loaded(t, c.meta))
			for range 20 {
				c.does(x.next(c.twin))
			}
		}
	}
	if taken < 100 {
		t.Error(taken, "were taken")
	}
}

func TestOpenOfAnyBytesEnds(t *testing.T) {
	chance := rand.New(rand.NewSource(7))
	for range 300 {
		var images [3]string
		for i := range images {
			b := make([]byte, chance.Intn(100)*sectorSize+chance.Intn(9))
			chance.Read(b)
			images[i] = string(b)
		}
		m := mains.New()
		if p, e := pool.Open(disc.Of(m, images[0]), disc.Of(m, images[1]), disc.Of(m, images[2])); p != nil || e != api.ErrForm {
			t.Fatal(p != nil, e)
		}
	}
}

func TestAByteThatIsTurnedOpensToTheOtherHeadOrNotAtAll(t *testing.T) {
	r := made(t, 8, 4, 2, 64)
	r.create(1, 4)
	r.write(1, 0, "abc")
	r.flush()
	r.write(1, 4, "xyz")
	r.flush()
	image := r.meta.Image()
	seen := map[string]bool{}
	for i := range 8 * pageSecs * sectorSize {
		b := []byte(image)
		b[i] ^= 1 << (i % 8)
		m := mains.New()
		p, e := pool.Open(r.slow, r.fast, disc.Of(m, string(b)))
		switch {
		case e == api.OK && p != nil:
			gen := p.Status().Gen
			seen[fmt.Sprint(gen)] = true
			if gen < 2 || gen > 3 {
				t.Fatalf("byte %d: Gen %d", i, gen)
			}
		case e == api.ErrForm && p == nil:
			seen["none"] = true
		default:
			t.Fatalf("byte %d: %v, %d", i, p != nil, e)
		}
	}
	if !seen["3"] || !seen["none"] {
		t.Error(seen)
	}
}

func TestNoCommitBehindTheGreatestGen(t *testing.T) {
	r := plain().devices(t)
	st, _ := store.Open(r.meta)
	h := st.Head()
	h.Gen = math.MaxUint32
	text, _ := head.Bytes(h)
	r.meta.Write(0, text)
	r.meta.Flush()
	p, e := pool.Open(r.slow, r.fast, r.meta)
	if e != api.OK {
		t.Fatal(e)
	}
	status := p.Status()
	if status.Gen != math.MaxUint32 {
		t.Error(status)
	}
	for range 100 {
		// As layer 7 answers, each time: nothing adds up.
		if e := p.Flush(); e != api.ErrArg {
			t.Fatal(e)
		}
	}
	if got := p.Status(); got != status {
		t.Errorf("%+v; want %+v", got, status)
	}
	if e := p.Write(2, 0, secs("x")); e != api.OK {
		t.Error(e)
	}
}
