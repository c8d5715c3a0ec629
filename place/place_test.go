package place_test

import (
	"fmt"
	"maps"
	"math"
	"math/rand"
	"slices"
	"strconv"
	"testing"

	"tierce/api"
	"tierce/disc"
	"tierce/mains"
	"tierce/place"
	"tierce/store"
	"tierce/tree"
	"tierce/vols"
)

// first is the key below those of places: that of the chunk 0. Behind beyond there are none.
const (
	first  = 1 << 33
	beyond = first + 1<<32
)

// Helpers: places and pairs.

// at answers where a chunk is.
func at(chunk, tier, slot int) place.Place {
	return place.Place{Chunk: chunk, Spot: api.Spot{Tier: tier, Slot: slot}}
}

// isPlace tells by the chapter's words whether a place can be.
func isPlace(x place.Place) bool {
	from := func(n, low, high int) bool { return n >= low && n <= high }
	return from(x.Chunk, 1, 1023) && from(x.Spot.Tier, 0, 1) && from(x.Spot.Slot, 0, 255)
}

// pairOf answers the pair of a place that can be, by the chapter's words.
func pairOf(x place.Place) api.Pair {
	return api.Pair{Key: uint64(8589934592 + x.Chunk), Val: uint64(x.Spot.Tier + 256*x.Spot.Slot)}
}

// placeOf answers the place of a pair, by the sixteen digits of each of its two numbers.
func placeOf(p api.Pair) (place.Place, bool) {
	key, val := fmt.Sprintf("%016x", p.Key), fmt.Sprintf("%016x", p.Val)
	if key[:8] != "00000002" || val[:12] != "000000000000" {
		return place.Place{}, false
	}
	part := func(digits string) int {
		n, _ := strconv.ParseInt(digits, 16, 64)
		return int(n)
	}
	x := at(part(key[8:]), part(val[14:]), part(val[12:14]))
	if !isPlace(x) {
		return place.Place{}, false
	}
	return x, true
}

// anyPlace answers one that can be.
func anyPlace(chance *rand.Rand) place.Place {
	return at(1+chance.Intn(1023), chance.Intn(2), chance.Intn(256))
}

// wrong answers places that can't be.
func wrong() []place.Place {
	out := []place.Place{{}, at(0, 1, 255), at(1024, 2, 256), at(-1, -1, -1), at(math.MaxInt, math.MaxInt, math.MaxInt), at(math.MinInt, math.MinInt, math.MinInt)}
	for _, n := range []int{0, -1, -5, 1024, 1025, math.MinInt, math.MinInt + 5, math.MaxInt, 1<<32 + 5, -1 << 32, -first, 5 - first, first + 5, 1<<16 + 5} {
		out = append(out, at(n, 0, 0), at(n, 1, 7))
	}
	for _, n := range []int{-1, 2, 3, math.MinInt, math.MinInt + 1, math.MaxInt, 1 << 32, -1 << 32, 1<<32 + 1, 256, 257, -255} {
		out = append(out, at(1, n, 0), at(1023, n, 255))
	}
	for _, n := range []int{-1, 256, 257, math.MinInt, math.MinInt + 5, math.MaxInt, 1 << 32, -1 << 32, 1<<32 + 5, 1 << 16, 1 << 56, 1<<56 + 5} {
		out = append(out, at(1, 0, n), at(1023, 1, n))
	}
	return out
}

// reads fails the test, unless Read answers what the digits of the pair tell.
func reads(t *testing.T, p api.Pair) {
	t.Helper()
	want, is := placeOf(p)
	if x, ok := place.Read(p); x != want || ok != is {
		t.Errorf("Read(%x) = %v, %t; want %v, %t", p, x, ok, want, is)
	}
}

// Helpers: trees.

// shelf answers one with these nodes, and all the room that there may be.
func shelf(list ...api.Leaf) *tree.Shelf { return &tree.Shelf{List: list, Room: 511} }

// copied answers nodes that share no memory with list.
func copied(list []api.Leaf) []api.Leaf {
	var out []api.Leaf
	for _, l := range list {
		out = append(out, api.Leaf{Level: l.Level, List: slices.Clone(l.List)})
	}
	return out
}

// sameNodes tells whether two rows of nodes are one.
func sameNodes(a, b []api.Leaf) bool {
	return slices.EqualFunc(a, b, func(a, b api.Leaf) bool {
		return a.Level == b.Level && slices.Equal(a.List, b.List)
	})
}

// built answers a shelf with a tree of these pairs, and its root.
func built(t *testing.T, pairs map[uint64]uint64) (*tree.Shelf, int) {
	t.Helper()
	var list []api.Pair
	for _, key := range slices.Sorted(maps.Keys(pairs)) {
		list = append(list, api.Pair{Key: key, Val: pairs[key]})
	}
	s := shelf()
	root, e := tree.Build(s, list)
	if e != api.OK {
		t.Fatal(e)
	}
	return s, root
}

// anyPairs answers pairs of places, and others below and above all that are theirs.
func anyPairs(chance *rand.Rand) map[uint64]uint64 {
	pairs := map[uint64]uint64{}
	for range chance.Intn([]int{1, 5, 60}[chance.Intn(3)]) {
		pairs[uint64(chance.Intn(99))] = chance.Uint64()
		pairs[first-1-uint64(chance.Intn(99))] = chance.Uint64()
		pairs[beyond+uint64(chance.Intn(99))] = chance.Uint64()
		pairs[math.MaxUint64-uint64(chance.Intn(99))] = chance.Uint64()
	}
	for range chance.Intn([]int{1, 20, 300}[chance.Intn(3)]) {
		p := pairOf(anyPlace(chance))
		pairs[p.Key] = p.Val
	}
	return pairs
}

// inside answers the places that these pairs should tell of, rising.
func inside(pairs map[uint64]uint64) []place.Place {
	var list []place.Place
	for chunk := uint64(1); chunk <= 1023; chunk++ {
		if val, is := pairs[first+chunk]; is {
			x, _ := placeOf(api.Pair{Key: first + chunk, Val: val})
			list = append(list, x)
		}
	}
	return list
}

// tall answers a shelf with a tree of eight levels in which a place of the chunk 3 needs one more, and its root.
func tall() (*tree.Shelf, int) {
	s := shelf()
	add := func(level int, list ...api.Pair) uint64 {
		s.List = append(s.List, api.Leaf{Level: level, List: list})
		return uint64(len(s.List))
	}
	var list []api.Pair
	for i := range uint64(15) {
		list = append(list, api.Pair{Key: first + 2*i})
	}
	page := add(0, list...)
	for level := 1; level <= 7; level++ {
		list := []api.Pair{{Key: first, Val: page}}
		for i := range 14 {
			p := api.Pair{Key: uint64(first + level*1000 + i)}
			for below := range level {
				p.Val = add(below, p)
			}
			list = append(list, p)
		}
		page = add(level, list...)
	}
	return s, int(page)
}

// Helpers: calls that are as they should be.

func lists(t *testing.T, p tree.Pages, root int, want ...place.Place) {
	t.Helper()
	if list, e := place.List(p, root); !slices.Equal(list, want) || e != api.OK {
		t.Errorf("List(%d) = %v, %v; want %v", root, list, e, want)
	}
}

func listsNot(t *testing.T, p tree.Pages, root int, want api.Errno) {
	t.Helper()
	if list, e := place.List(p, root); len(list) != 0 || e != want {
		t.Errorf("List(%d) = %v, %v; want %v", root, list, e, want)
	}
}

func puts(t *testing.T, p tree.Pages, root int, x place.Place) int {
	t.Helper()
	now, e := place.Put(p, root, x)
	if e != api.OK {
		t.Fatal(x, e)
	}
	return now
}

func putsNot(t *testing.T, p tree.Pages, root int, x place.Place, want api.Errno) {
	t.Helper()
	if now, e := place.Put(p, root, x); now != 0 || e != want {
		t.Errorf("Put(%d, %v) = %d, %v; want %v", root, x, now, e, want)
	}
}

func drops(t *testing.T, p tree.Pages, root, chunk int) int {
	t.Helper()
	now, is, e := place.Drop(p, root, chunk)
	if !is || e != api.OK {
		t.Fatal(chunk, now, is, e)
	}
	return now
}

func dropsNone(t *testing.T, p tree.Pages, root, chunk int) {
	t.Helper()
	if now, is, e := place.Drop(p, root, chunk); now != root || is || e != api.OK {
		t.Errorf("Drop(%d, %d) = %d, %t, %v; want nothing", root, chunk, now, is, e)
	}
}

func dropsNot(t *testing.T, p tree.Pages, root, chunk int, want api.Errno) {
	t.Helper()
	if now, is, e := place.Drop(p, root, chunk); now != 0 || is || e != want {
		t.Errorf("Drop(%d, %d) = %d, %t, %v; want %v", root, chunk, now, is, e, want)
	}
}

func isGood(t *testing.T, want bool, slots [2]int, list ...place.Place) {
	t.Helper()
	was := slices.Clone(list)
	if place.Good(list, slots) != want {
		t.Errorf("Good(%v, %v) isn't %t", list, slots, want)
	}
	if !slices.Equal(list, was) {
		t.Errorf("Good changed %v to %v", was, list)
	}
}

// Helpers: pages of other kinds.

// faulty is a shelf of which all uses behind so many answer an error, with something else beside it.
type faulty struct {
	*tree.Shelf
	after int
	fault api.Errno
}

func (f *faulty) fails() bool {
	f.after--
	return f.after < 0
}

func (f *faulty) Read(page int) (api.Leaf, api.Errno) {
	if f.fails() {
		return api.Leaf{List: []api.Pair{{Key: first + 1}}}, f.fault
	}
	return f.Shelf.Read(page)
}

func (f *faulty) Add(l api.Leaf) (int, api.Errno) {
	if f.fails() {
		return 77, f.fault
	}
	return f.Shelf.Add(l)
}

// own is the caller's own kind of pages, of which a nil panics.
type own struct{ shelf tree.Shelf }

func (o *own) Read(page int) (api.Leaf, api.Errno) { return o.shelf.Read(page) }
func (o *own) Add(l api.Leaf) (int, api.Errno)     { return o.shelf.Add(l) }

// P14.1: places that can be, and their pairs.

func TestTheExample(t *testing.T) {
	x := at(5, api.Fast, 2)
	p := api.Pair{Key: 1<<33 + 5, Val: 513}
	if got, e := place.Pair(x); got != p || e != api.OK {
		t.Error(got, e)
	}
	if got, is := place.Read(p); got != x || !is {
		t.Error(got, is)
	}
}

func TestAllPlacesThatCanBe(t *testing.T) {
	for chunk := 1; chunk <= 1023; chunk++ {
		for tier := range 2 {
			for slot := range 256 {
				x := at(chunk, tier, slot)
				p, e := place.Pair(x)
				if p != pairOf(x) || e != api.OK {
					t.Fatal(x, p, e)
				}
				if got, is := place.Read(p); got != x || !is {
					t.Fatal(x, got, is)
				}
			}
		}
	}
}

func TestPlacesThatCannotBe(t *testing.T) {
	for _, x := range wrong() {
		if p, e := place.Pair(x); p != (api.Pair{}) || e != api.ErrArg {
			t.Error(x, p, e)
		}
	}
}

func TestPlacesOfAnyKind(t *testing.T) {
	chance := rand.New(rand.NewSource(141))
	for range 30000 {
		x := anyPlace(chance)
		for _, part := range []*int{&x.Chunk, &x.Spot.Tier, &x.Spot.Slot} {
			if chance.Intn(8) == 0 {
				*part += chance.Intn(5) - 2
			}
			if chance.Intn(40) == 0 {
				*part = int(chance.Uint64() >> chance.Intn(64))
			}
		}
		want, e := api.Pair{}, api.ErrArg
		if isPlace(x) {
			want, e = pairOf(x), api.OK
		}
		if p, f := place.Pair(x); p != want || f != e {
			t.Error(x, p, f)
		}
	}
}

func TestPairsOfNone(t *testing.T) {
	good := pairOf(at(7, api.Fast, 9))
	for _, p := range []api.Pair{
		{}, {Key: 1}, {Key: 7, Val: good.Val}, {Key: first}, {Key: first, Val: good.Val}, {Key: first - 1}, {Key: first - 7, Val: good.Val},
		{Key: first + 1024}, {Key: first + 1024, Val: good.Val}, {Key: beyond - 1}, {Key: beyond}, {Key: beyond + 7, Val: good.Val},
		{Key: first/2 + 7, Val: good.Val}, {Key: 2*first + 7, Val: good.Val}, {Key: 1<<63 + first + 7}, {Key: math.MaxUint64, Val: math.MaxUint64},
		{Key: good.Key, Val: 2}, {Key: good.Key, Val: 128}, {Key: good.Key, Val: 255}, {Key: good.Key, Val: 2 + 9<<8}, {Key: good.Key, Val: 256 << 8}, {Key: good.Key, Val: 256<<8 + 1},
		{Key: good.Key, Val: 1 << 32}, {Key: good.Key, Val: 1<<40 + 1}, {Key: good.Key, Val: 1 << 63}, {Key: good.Key, Val: math.MaxUint64},
	} {
		if x, is := place.Read(p); x != (place.Place{}) || is {
			t.Errorf("%x: %v, %t", p, x, is)
		}
	}
}

// Each bit of a pair that is a place's, turned, and any two of them.
func TestPairsThatWereTurned(t *testing.T) {
	chance := rand.New(rand.NewSource(142))
	for _, x := range []place.Place{at(1, 0, 0), at(1023, 1, 255), anyPlace(chance), anyPlace(chance), anyPlace(chance)} {
		p := pairOf(x)
		for i := range 64 {
			reads(t, api.Pair{Key: p.Key ^ 1<<i, Val: p.Val})
			reads(t, api.Pair{Key: p.Key, Val: p.Val ^ 1<<i})
			for j := range 64 {
				reads(t, api.Pair{Key: p.Key, Val: p.Val ^ 1<<i ^ 1<<j})
				reads(t, api.Pair{Key: p.Key ^ 1<<i, Val: p.Val ^ 1<<j})
				reads(t, api.Pair{Key: p.Key ^ 1<<i ^ 1<<j, Val: p.Val})
			}
		}
	}
}

func TestPairsOfAnyKind(t *testing.T) {
	chance := rand.New(rand.NewSource(143))
	for n := range uint64(1 << 17) {
		p := pairOf(anyPlace(chance))
		reads(t, api.Pair{Key: p.Key, Val: n})
		reads(t, api.Pair{Key: p.Key, Val: math.MaxUint64 - n})
		reads(t, api.Pair{Key: first - 1<<16 + n, Val: p.Val})
		reads(t, api.Pair{Key: n + n%4*(first/2), Val: p.Val})
		reads(t, api.Pair{Key: p.Key, Val: chance.Uint64() >> chance.Intn(64)})
		reads(t, api.Pair{Key: chance.Uint64() >> chance.Intn(64), Val: p.Val})
	}
}

// P14.2: places in a tree.

func TestAFewPlaces(t *testing.T) {
	s := shelf()
	lists(t, s, 0)
	a := puts(t, s, 0, at(5, 0, 5))
	b := puts(t, s, a, at(2, 1, 9))
	c := puts(t, s, b, at(1023, 1, 255))
	d := puts(t, s, c, at(5, 1, 2))
	e := drops(t, s, d, 2)
	dropsNone(t, s, e, 2)
	f := drops(t, s, drops(t, s, e, 5), 1023)
	lists(t, s, a, at(5, 0, 5))
	lists(t, s, b, at(2, 1, 9), at(5, 0, 5))
	lists(t, s, c, at(2, 1, 9), at(5, 0, 5), at(1023, 1, 255))
	lists(t, s, d, at(2, 1, 9), at(5, 1, 2), at(1023, 1, 255))
	lists(t, s, e, at(5, 1, 2), at(1023, 1, 255))
	if f != 0 {
		t.Error(f)
	}
}

// A tree tells of places as they are, whether they are Good together or not: that of all chunks at one spot too.
func TestAllChunks(t *testing.T) {
	chance := rand.New(rand.NewSource(144))
	for i := range 3 {
		pairs := map[uint64]uint64{0: 1, first - 1: 2, beyond: 3, math.MaxUint64: 4}
		for chunk := 1; chunk <= 1023; chunk++ {
			x := at(chunk, 1, 7)
			if i > 0 {
				x.Spot = anyPlace(chance).Spot
			}
			pairs[pairOf(x).Key] = pairOf(x).Val
		}
		s, root := built(t, pairs)
		want := inside(pairs)
		if len(want) != 1023 {
			t.Fatal(len(want))
		}
		lists(t, s, root, want...)
		now := puts(t, s, drops(t, s, drops(t, s, root, 1), 1023), at(600, 0, 255))
		left := slices.Clone(want[1:1022])
		left[598] = at(600, 0, 255)
		lists(t, s, now, left...)
		lists(t, s, root, want...)
	}
}

// A pair with a key of places that is none's, whether it stands first, last or between.
func TestListOfPairsOfNone(t *testing.T) {
	for _, p := range []api.Pair{
		{Key: first}, {Key: first, Val: 513}, {Key: first + 1024}, {Key: first + 1025, Val: 1}, {Key: beyond - 1}, {Key: beyond - 1, Val: 513}, {Key: first + 1, Val: 2},
		{Key: first + 1023, Val: 256 << 8}, {Key: first + 8, Val: 255}, {Key: first + 9, Val: 1 << 32}, {Key: first + 3, Val: math.MaxUint64},
	} {
		for _, pairs := range []map[uint64]uint64{{}, {first + 1: 0}, {first + 2: 0, first + 1022: 0}, {first + 1023: 0, 5: 5, beyond: 7}} {
			pairs[p.Key] = p.Val
			s, root := built(t, pairs)
			listsNot(t, s, root, api.ErrForm)
		}
	}
}

// Pairs with other keys may have any Val, and play no part.
func TestListAmongOthers(t *testing.T) {
	s, root := built(t, map[uint64]uint64{0: math.MaxUint64, 1: 0, first - 1: 513, beyond: 513, beyond + 1: 0, 2*first + 1: 0, math.MaxUint64: 1})
	lists(t, s, root)
	lists(t, s, puts(t, s, root, at(1, 1, 1)), at(1, 1, 1))
	s, root = built(t, map[uint64]uint64{1: 513, beyond: 513, first + 4: 513})
	lists(t, s, root, at(4, 1, 2))
}

// Volumes stand in the same tree: neither's calls see what is the other's.
func TestPlacesAmongVolumes(t *testing.T) {
	s, root := shelf(), 0
	var volumes []api.Volume
	var places []place.Place
	for i := 1; i <= 16; i++ {
		v, x := api.Volume{Id: i, Size: i}, at(i, i%2, i)
		now, e := vols.Put(s, root, v)
		if e != api.OK {
			t.Fatal(e)
		}
		root = puts(t, s, now, x)
		volumes, places = append(volumes, v), append(places, x)
	}
	without := drops(t, s, root, 16)
	fewer, is, e := vols.Drop(s, root, 1)
	if !is || e != api.OK {
		t.Fatal(is, e)
	}
	for _, c := range []struct {
		root    int
		volumes []api.Volume
		places  []place.Place
	}{{root, volumes, places}, {without, volumes, places[:15]}, {fewer, volumes[1:], places}} {
		lists(t, s, c.root, c.places...)
		if list, e := vols.List(s, c.root); !slices.Equal(list, c.volumes) || e != api.OK {
			t.Error(list, e)
		}
	}
}

// Put is layer 8's, node by node; pairs that are none's don't hinder it.
func TestPutIsTheTrees(t *testing.T) {
	chance := rand.New(rand.NewSource(145))
	for i := range 400 {
		pairs := anyPairs(chance)
		if i%4 == 0 {
			pairs[first+1040] = 9
			pairs[first+6] = math.MaxUint64
		}
		s, root := built(t, pairs)
		other := shelf(copied(s.List)...)
		x := anyPlace(chance)
		want, _ := tree.Put(other, root, pairOf(x).Key, pairOf(x).Val)
		if now := puts(t, s, root, x); now != want || !sameNodes(s.List, other.List) {
			t.Error(x, now, want)
		}
	}
}

// Drop is layer 8's, node by node, of any chunk.
func TestDropIsTheTrees(t *testing.T) {
	chance := rand.New(rand.NewSource(146))
	for i := range 400 {
		pairs := anyPairs(chance)
		if i%4 == 0 {
			pairs[first+1040] = 9
			pairs[first+6] = math.MaxUint64
		}
		s, root := built(t, pairs)
		other := shelf(copied(s.List)...)
		chunk := chance.Intn([]int{60, 1100}[chance.Intn(2)]) - 10
		want, wanted, _ := tree.Drop(other, root, uint64(chunk+first))
		now, is, e := place.Drop(s, root, chunk)
		if now != want || is != wanted || e != api.OK || !sameNodes(s.List, other.List) {
			t.Error(chunk, now, is, e, want, wanted)
		}
	}
}

// The key of any chunk is 2^33 and it, modulo 2^64, whether there may be such a chunk or not.
func TestDropOfAnyChunk(t *testing.T) {
	for _, c := range []struct {
		chunk int
		key   uint64
	}{
		{0, first}, {1, first + 1}, {1023, first + 1023}, {1024, first + 1024}, {-1, first - 1}, {-first, 0}, {7 - first, 7}, {-first - 1, math.MaxUint64},
		{1<<32 - 1, beyond - 1}, {1 << 32, beyond}, {first, 2 * first}, {math.MaxInt, 1<<63 + first - 1}, {math.MinInt, 1<<63 + first},
	} {
		s, root := built(t, map[uint64]uint64{c.key: 9, first + 5: 1, 55: 5})
		now := drops(t, s, root, c.chunk)
		if _, is, e := tree.Get(s, now, c.key); is || e != api.OK {
			t.Error(c.chunk, is, e)
		}
		if pairs, e := tree.Range(s, now, 0, math.MaxUint64); len(pairs) != 2 || e != api.OK {
			t.Error(c.chunk, pairs, e)
		}
		dropsNone(t, s, now, c.chunk)
		dropsNone(t, s, 0, c.chunk)
	}
}

// Rows of any calls, against a map of pairs; what was stays as it was.
func TestRowsOfCalls(t *testing.T) {
	chance := rand.New(rand.NewSource(147))
	for range 100 {
		pairs := anyPairs(chance)
		s, root := built(t, pairs)
		type old struct {
			root int
			list []place.Place
		}
		var olds []old
		for range 60 {
			x := anyPlace(chance)
			if chance.Intn(2) == 0 {
				x.Chunk = 1 + chance.Intn(20)
			}
			_, has := pairs[pairOf(x).Key]
			switch {
			case chance.Intn(3) > 0:
				root = puts(t, s, root, x)
				pairs[pairOf(x).Key] = pairOf(x).Val
			case has:
				root = drops(t, s, root, x.Chunk)
				delete(pairs, pairOf(x).Key)
			default:
				dropsNone(t, s, root, x.Chunk)
			}
			olds = append(olds, old{root, inside(pairs)})
		}
		for _, o := range olds {
			lists(t, s, o.root, o.list...)
		}
		all, e := tree.Range(s, root, 0, math.MaxUint64)
		if len(all) != len(pairs) || e != api.OK {
			t.Error(len(all), len(pairs), e)
		}
		for _, p := range all {
			if val, is := pairs[p.Key]; !is || val != p.Val {
				t.Error(p, val)
			}
		}
	}
}

// A store is pages as well.
func TestPlacesOfAStore(t *testing.T) {
	d := disc.New(mains.New(), 10*api.PageSecs)
	st, e := store.Format(d, [2]int{9, 9}, 4)
	if e != api.OK {
		t.Fatal(e)
	}
	root := puts(t, st, 0, at(5, 1, 2))
	root = puts(t, st, root, at(1023, 0, 255))
	root = puts(t, st, root, at(1, 0, 0))
	if e := st.Commit(root, root); e != api.OK {
		t.Fatal(e)
	}
	st, e = store.Open(d)
	if e != api.OK {
		t.Fatal(e)
	}
	lists(t, st, st.Head().Root, at(1, 0, 0), at(5, 1, 2), at(1023, 0, 255))
}

// P14.2: errors.

func TestWrongPlacesAreToldFirst(t *testing.T) {
	for _, x := range wrong() {
		for _, p := range []tree.Pages{nil, (*tree.Shelf)(nil), (*own)(nil), shelf(), &faulty{Shelf: shelf(), fault: api.ErrDown}} {
			putsNot(t, p, 0, x, api.ErrArg)
			putsNot(t, p, 99, x, api.ErrArg)
		}
		s, root := tall()
		was := copied(s.List)
		putsNot(t, s, root, x, api.ErrArg)
		if !sameNodes(s.List, was) {
			t.Error(x)
		}
	}
}

func TestPagesThatAreNot(t *testing.T) {
	for _, p := range []tree.Pages{nil, (*tree.Shelf)(nil), (*store.Store)(nil), (*own)(nil)} {
		lists(t, p, 0)
		dropsNone(t, p, 0, 3)
		for _, root := range []int{0, 1, -1} {
			putsNot(t, p, root, at(3, 1, 5), api.ErrNil)
		}
		listsNot(t, p, 1, api.ErrNil)
		dropsNot(t, p, 1, 3, api.ErrNil)
	}
}

func TestPagesWithoutRoom(t *testing.T) {
	s := &tree.Shelf{Room: 1}
	root := puts(t, s, 0, at(3, 0, 5))
	putsNot(t, s, root, at(4, 0, 6), api.ErrPages)
	putsNot(t, s, root, at(3, 1, 5), api.ErrPages)
	lists(t, s, root, at(3, 0, 5))
	if now := drops(t, s, root, 3); now != 0 {
		t.Error(now)
	}
	s.Room = 2
	root = puts(t, s, root, at(4, 1, 6))
	dropsNot(t, s, root, 4, api.ErrPages)
	lists(t, s, root, at(3, 0, 5), at(4, 1, 6))
}

func TestATreeThatIsTooHigh(t *testing.T) {
	s, root := tall()
	if e := tree.Check(s, root); e != api.OK {
		t.Fatal(e)
	}
	was := copied(s.List)
	putsNot(t, s, root, at(3, 0, 5), api.ErrFull)
	if !sameNodes(s.List, was) {
		t.Error("nodes were added")
	}
	puts(t, s, root, at(4, 0, 5))
}

// Each use of the pages may fail: the error is told, with nothing beside it.
func TestPagesThatFail(t *testing.T) {
	pairs := map[uint64]uint64{}
	for i := range uint64(40) {
		pairs[i] = i
	}
	for chunk := uint64(1); chunk <= 16; chunk++ {
		if chunk != 8 {
			pairs[first+chunk] = chunk << 8
		}
	}
	for _, fault := range []api.Errno{api.ErrDown, api.ErrRange, api.ErrPages, api.ErrNil, 77, -1} {
		s, root := built(t, pairs)
		was := len(s.List)
		ask := func(after int) *faulty {
			return &faulty{Shelf: shelf(copied(s.List)...), after: after, fault: fault}
		}
		// the root, and the leaves with keys of places
		for after := range 3 {
			listsNot(t, ask(after), root, fault)
		}
		lists(t, ask(3), root, inside(pairs)...)
		// down to the leaf, and the new nodes
		for after := range 4 {
			dropsNot(t, ask(after), root, 9, fault)
			putsNot(t, ask(after), root, at(8, 1, 8), fault)
		}
		drops(t, ask(4), root, 9)
		puts(t, ask(4), root, at(8, 1, 8))
		if len(s.List) != was {
			t.Error("the shelf was changed")
		}
	}
}

// Trees that aren't sound: ErrForm, where a node is met that isn't one level below the one that leads there; the pages' error, where there is none.
func TestTreesThatAreNot(t *testing.T) {
	leaf := api.Leaf{List: []api.Pair{{Key: first + 1}, {Key: first + 2}}}
	for i, s := range []*tree.Shelf{
		shelf(leaf, api.Leaf{Level: 2, List: []api.Pair{{Key: first, Val: 1}, {Key: first + 1, Val: 1}}}),
		shelf(api.Leaf{}, api.Leaf{Level: 1, List: []api.Pair{{Key: first, Val: 2}, {Key: beyond, Val: 2}}}),
	} {
		listsNot(t, s, 2, api.ErrForm)
		putsNot(t, s, 2, at(1, 0, 0), api.ErrForm)
		dropsNot(t, s, 2, 1, api.ErrForm)
		if len(s.List) != 2 {
			t.Error(i)
		}
	}
	s := shelf(leaf)
	for _, root := range []int{2, -1, 512, math.MaxInt, math.MinInt} {
		listsNot(t, s, root, api.ErrRange)
		putsNot(t, s, root, at(1, 0, 0), api.ErrRange)
		dropsNot(t, s, root, 1, api.ErrRange)
	}
}

// What is answered is new memory each time.
func TestListsShareNothing(t *testing.T) {
	s, root := built(t, map[uint64]uint64{first + 1: 0, first + 2: 513})
	one, _ := place.List(s, root)
	two, _ := place.List(s, root)
	one[0] = at(9, 1, 9)
	_ = append(one[:1], at(8, 1, 8))
	if two[0] != at(1, 0, 0) || two[1] != at(2, 1, 2) {
		t.Error(two)
	}
	lists(t, s, root, at(1, 0, 0), at(2, 1, 2))
}

// P14.3: places that can be together.

func TestGoodOfNone(t *testing.T) {
	for _, slots := range [][2]int{{}, {256, 256}, {-1, -1}, {math.MinInt, math.MaxInt}, {0, 1}} {
		isGood(t, true, slots)
		isGood(t, true, slots, []place.Place{}...)
	}
}

func TestGoodOfOne(t *testing.T) {
	for _, chunk := range []int{1, 2, 500, 1022, 1023} {
		for _, slot := range []int{0, 1, 254, 255} {
			for _, n := range []int{math.MinInt, -1, 0, 1, 2, 254, 255, 256, 257, math.MaxInt} {
				isGood(t, slot < n, [2]int{n, 0}, at(chunk, 0, slot))
				isGood(t, slot < n, [2]int{0, n}, at(chunk, 1, slot))
				isGood(t, false, [2]int{n, 0}, at(chunk, 1, slot))
				isGood(t, false, [2]int{0, n}, at(chunk, 0, slot))
			}
		}
	}
}

// A place that can't be, whether it stands alone, first, last or between.
func TestGoodOfPlacesThatCannotBe(t *testing.T) {
	for _, x := range wrong() {
		for _, slots := range [][2]int{{256, 256}, {math.MaxInt, math.MaxInt}, {300, 1}} {
			isGood(t, false, slots, x)
			isGood(t, false, slots, x, at(500, 0, 5))
			isGood(t, false, slots, at(1, 0, 6), x)
			isGood(t, false, slots, at(1, 0, 6), x, at(1023, 0, 5))
		}
	}
}

func TestGoodOfChunksThatDoNotRise(t *testing.T) {
	slots := [2]int{9, 9}
	isGood(t, true, slots, at(1, 0, 0), at(2, 0, 1), at(3, 0, 2))
	isGood(t, true, slots, at(1, 0, 8), at(7, 1, 8), at(1023, 0, 2))
	isGood(t, false, slots, at(2, 0, 0), at(2, 0, 1))
	isGood(t, false, slots, at(2, 0, 0), at(2, 1, 0))
	isGood(t, false, slots, at(2, 0, 0), at(2, 0, 0))
	isGood(t, false, slots, at(2, 0, 0), at(1, 0, 1))
	isGood(t, false, slots, at(1, 0, 0), at(2, 0, 1), at(2, 0, 2))
	isGood(t, false, slots, at(1, 0, 0), at(3, 0, 1), at(2, 0, 2))
	isGood(t, false, slots, at(1, 0, 0), at(3, 0, 1), at(1, 0, 2))
	isGood(t, false, slots, at(2, 0, 0), at(1, 0, 1), at(3, 0, 2))
}

func TestGoodOfSpots(t *testing.T) {
	slots := [2]int{3, 2}
	isGood(t, true, slots, at(1, 0, 0), at(2, 1, 0), at(3, 0, 1), at(4, 1, 1), at(5, 0, 2))
	isGood(t, false, slots, at(1, 0, 0), at(2, 1, 0), at(3, 0, 1), at(4, 1, 1), at(5, 1, 2))
	isGood(t, false, slots, at(1, 0, 3), at(2, 1, 0))
	isGood(t, false, slots, at(1, 1, 0), at(2, 0, 1), at(3, 1, 0))
	isGood(t, false, slots, at(1, 0, 2), at(2, 0, 2))
	isGood(t, false, slots, at(1, 1, 1), at(2, 1, 1))
	isGood(t, true, slots, at(1, 1, 1), at(2, 0, 1))
}

// full answers a list of the chunks from 1 to 512 in which one is on each slot of each tier.
func full(chance *rand.Rand) []place.Place {
	var list []place.Place
	for i, spot := range chance.Perm(512) {
		list = append(list, at(i+1, spot%2, spot/2))
	}
	return list
}

func TestGoodOfFullTiers(t *testing.T) {
	list := full(rand.New(rand.NewSource(148)))
	isGood(t, true, [2]int{256, 256}, list...)
	isGood(t, true, [2]int{math.MaxInt, 257}, list...)
	isGood(t, false, [2]int{255, 256}, list...)
	isGood(t, false, [2]int{256, 255}, list...)
	for tier := range 2 {
		for slot := range 256 {
			isGood(t, false, [2]int{256, 256}, append(slices.Clone(list), at(1023, tier, slot))...)
		}
	}
}

// Any two of a list that was good may get the same spot, or each other's chunk.
func TestGoodOfListsThatWereTurned(t *testing.T) {
	chance := rand.New(rand.NewSource(149))
	was := full(chance)
	for range 2000 {
		i, j := chance.Intn(512), chance.Intn(512)
		list := slices.Clone(was)
		list[i].Spot = list[j].Spot
		isGood(t, i == j, [2]int{256, 256}, list...)
		list = slices.Clone(was)
		list[i].Chunk, list[j].Chunk = list[j].Chunk, list[i].Chunk
		isGood(t, i == j, [2]int{256, 256}, list...)
		list = slices.Clone(was)
		list[i].Spot, list[j].Spot = list[j].Spot, list[i].Spot
		isGood(t, true, [2]int{256, 256}, list...)
	}
}

// areGood tells by the chapter's words whether places can be together, by holding each against all behind it.
func areGood(list []place.Place, slots [2]int) bool {
	for i, x := range list {
		if !isPlace(x) || x.Spot.Tier == 0 && x.Spot.Slot >= slots[0] || x.Spot.Tier == 1 && x.Spot.Slot >= slots[1] {
			return false
		}
		for _, y := range list[i+1:] {
			if y.Chunk <= x.Chunk || y.Spot == x.Spot {
				return false
			}
		}
	}
	return true
}

func TestGoodOfAnyLists(t *testing.T) {
	chance := rand.New(rand.NewSource(150))
	good := 0
	for range 60000 {
		slots := [2]int{chance.Intn(8), chance.Intn(8)}
		var list []place.Place
		chunk := 0
		for range chance.Intn(6) {
			chunk += chance.Intn(12) - chance.Intn(60)/55
			list = append(list, at(chunk, chance.Intn(30)/14, chance.Intn(8)-chance.Intn(40)/39))
		}
		want := areGood(list, slots)
		isGood(t, want, slots, list...)
		if want && len(list) > 1 {
			good++
		}
	}
	if good < 1000 {
		t.Error("too few are good:", good)
	}
}

// What stands in the room behind a list plays no part, and isn't changed.
func TestGoodOfAListWithRoomBehind(t *testing.T) {
	room := []place.Place{at(1, 0, 0), at(2, 0, 1), at(2, 0, 1), at(0, 7, 7)}
	was := slices.Clone(room)
	if !place.Good(room[:2], [2]int{2, 0}) || !slices.Equal(room, was) {
		t.Error(room)
	}
}
