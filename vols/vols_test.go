package vols_test

import (
	"fmt"
	"maps"
	"math"
	"math/rand"
	"slices"
	"strconv"
	"testing"

	"tierce/api"
	"tierce/disc"
	"tierce/mains"
	"tierce/store"
	"tierce/tree"
	"tierce/vols"
)

// first is the key below those of volumes: that of the Id 0.
const first = 1 << 32

// Helpers: volumes and pairs.

// isGood tells by the chapter's words whether a volume can be.
func isGood(v api.Volume) bool {
	from := func(n, low, high int) bool { return n >= low && n <= high }
	return from(v.Id, 1, 16) && from(v.Size, 0, 64) && from(v.Root, 0, 511) && from(v.From, 0, 16)
}

// pairOf answers the pair of a volume that can be, by the chapter's words.
func pairOf(v api.Volume) api.Pair {
	pinned := 0
	if v.Pinned {
		pinned = 1
	}
	return api.Pair{Key: uint64(4294967296 + v.Id), Val: uint64(v.Root + 65536*v.Size + 4294967296*pinned + 1099511627776*v.From)}
}

// volumeOf answers the volume of a pair, by the sixteen digits of its Val.
func volumeOf(p api.Pair) (api.Volume, bool) {
	digits := fmt.Sprintf("%016x", p.Val)
	part := func(from, to int) int {
		n, _ := strconv.ParseInt(digits[from:to], 16, 64)
		return int(n)
	}
	v := api.Volume{From: part(0, 6), Pinned: part(6, 8) == 1, Size: part(8, 12), Root: part(12, 16)}
	if p.Key <= first || p.Key > first+16 || part(6, 8) > 1 {
		return api.Volume{}, false
	}
	v.Id = int(p.Key - first)
	if !isGood(v) {
		return api.Volume{}, false
	}
	return v, true
}

// anyVolume answers one that can be.
func anyVolume(chance *rand.Rand) api.Volume {
	return api.Volume{Id: 1 + chance.Intn(16), Size: chance.Intn(65), Root: chance.Intn(512), Pinned: chance.Intn(2) == 0, From: chance.Intn(17)}
}

// volume answers one of a size.
func volume(id, size int) api.Volume { return api.Volume{Id: id, Size: size} }

// wrong answers volumes that can't be.
func wrong() []api.Volume {
	out := []api.Volume{{}}
	for _, n := range []int{-1, 17, math.MinInt, math.MaxInt, 1<<32 + 1, -1 << 32, 257, 1<<16 + 1} {
		out = append(out, api.Volume{Id: n}, api.Volume{Id: 1, From: n})
	}
	for _, n := range []int{-1, 65, math.MinInt, math.MaxInt, 1 << 32, 1 << 16, -1 << 16} {
		out = append(out, api.Volume{Id: 1, Size: n})
	}
	for _, n := range []int{-1, 512, math.MinInt, math.MaxInt, 1 << 32, 1 << 16, -1 << 16, 513} {
		out = append(out, api.Volume{Id: 1, Root: n})
	}
	return append(out, api.Volume{Size: 64, Root: 511, Pinned: true, From: 16}, api.Volume{Id: 16, Size: -1, Root: 1 << 16}, api.Volume{Id: 17, Size: 65, Root: 512, From: 17})
}

// reads fails the test, unless Read answers what the digits of the pair tell.
func reads(t *testing.T, p api.Pair) {
	t.Helper()
	want, is := volumeOf(p)
	if v, ok := vols.Read(p); v != want || ok != is {
		t.Errorf("Read(%x) = %v, %t; want %v, %t", p, v, ok, want, is)
	}
}

// Helpers: trees.

// shelf answers one with these nodes, and all the room that there may be.
func shelf(list ...api.Leaf) *tree.Shelf { return &tree.Shelf{List: list, Room: 511} }

// copied answers nodes that share no memory with list.
func copied(list []api.Leaf) []api.Leaf {
	var out []api.Leaf
	for _, l := range list {
		out = append(out, api.Leaf{Level: l.Level, List: slices.Clone(l.List)})
	}
	return out
}

// sameNodes tells whether two rows of nodes are one.
func sameNodes(a, b []api.Leaf) bool {
	return slices.EqualFunc(a, b, func(a, b api.Leaf) bool {
		return a.Level == b.Level && slices.Equal(a.List, b.List)
	})
}

// built answers a shelf with a tree of these pairs, and its root.
func built(t *testing.T, pairs map[uint64]uint64) (*tree.Shelf, int) {
	t.Helper()
	var list []api.Pair
	for _, key := range slices.Sorted(maps.Keys(pairs)) {
		list = append(list, api.Pair{Key: key, Val: pairs[key]})
	}
	s := shelf()
	root, e := tree.Build(s, list)
	if e != api.OK {
		t.Fatal(e)
	}
	return s, root
}

// anyPairs answers pairs of volumes, and others below and above all that are theirs.
func anyPairs(chance *rand.Rand) map[uint64]uint64 {
	pairs := map[uint64]uint64{}
	for range chance.Intn([]int{1, 5, 60}[chance.Intn(3)]) {
		pairs[uint64(chance.Intn(99))] = chance.Uint64()
		pairs[2*first+uint64(chance.Intn(99))] = chance.Uint64()
		pairs[math.MaxUint64-uint64(chance.Intn(99))] = chance.Uint64()
		pairs[first-1-uint64(chance.Intn(99))] = chance.Uint64()
	}
	for range chance.Intn(20) {
		p := pairOf(anyVolume(chance))
		pairs[p.Key] = p.Val
	}
	return pairs
}

// inside answers the volumes that these pairs should tell of, rising.
func inside(pairs map[uint64]uint64) []api.Volume {
	var list []api.Volume
	for id := uint64(1); id <= 16; id++ {
		if val, is := pairs[first+id]; is {
			v, _ := volumeOf(api.Pair{Key: first + id, Val: val})
			list = append(list, v)
		}
	}
	return list
}

// tall answers a shelf with a tree of eight levels in which a volume of the Id 3 needs one more, and its root.
func tall() (*tree.Shelf, int) {
	s := shelf()
	add := func(level int, list ...api.Pair) uint64 {
		s.List = append(s.List, api.Leaf{Level: level, List: list})
		return uint64(len(s.List))
	}
	var list []api.Pair
	for i := range uint64(15) {
		key := first + 2*i
		list = append(list, api.Pair{Key: key})
	}
	page := add(0, list...)
	for level := 1; level <= 7; level++ {
		list := []api.Pair{{Key: first, Val: page}}
		for i := range 14 {
			p := api.Pair{Key: uint64(first + level*1000 + i)}
			for below := range level {
				p.Val = add(below, p)
			}
			list = append(list, p)
		}
		page = add(level, list...)
	}
	return s, int(page)
}

// Helpers: calls that are as they should be.

func lists(t *testing.T, p tree.Pages, root int, want ...api.Volume) {
	t.Helper()
	if list, e := vols.List(p, root); !slices.Equal(list, want) || e != api.OK {
		t.Errorf("List(%d) = %v, %v; want %v", root, list, e, want)
	}
}

func listsNot(t *testing.T, p tree.Pages, root int, want api.Errno) {
	t.Helper()
	if list, e := vols.List(p, root); len(list) != 0 || e != want {
		t.Errorf("List(%d) = %v, %v; want %v", root, list, e, want)
	}
}

func puts(t *testing.T, p tree.Pages, root int, v api.Volume) int {
	t.Helper()
	now, e := vols.Put(p, root, v)
	if e != api.OK {
		t.Fatal(v, e)
	}
	return now
}

func putsNot(t *testing.T, p tree.Pages, root int, v api.Volume, want api.Errno) {
	t.Helper()
	if now, e := vols.Put(p, root, v); now != 0 || e != want {
		t.Errorf("Put(%d, %v) = %d, %v; want %v", root, v, now, e, want)
	}
}

func drops(t *testing.T, p tree.Pages, root, id int) int {
	t.Helper()
	now, is, e := vols.Drop(p, root, id)
	if !is || e != api.OK {
		t.Fatal(id, now, is, e)
	}
	return now
}

func dropsNone(t *testing.T, p tree.Pages, root, id int) {
	t.Helper()
	if now, is, e := vols.Drop(p, root, id); now != root || is || e != api.OK {
		t.Errorf("Drop(%d, %d) = %d, %t, %v; want nothing", root, id, now, is, e)
	}
}

func dropsNot(t *testing.T, p tree.Pages, root, id int, want api.Errno) {
	t.Helper()
	if now, is, e := vols.Drop(p, root, id); now != 0 || is || e != want {
		t.Errorf("Drop(%d, %d) = %d, %t, %v; want %v", root, id, now, is, e, want)
	}
}

// Helpers: pages of other kinds.

// faulty is a shelf of which all uses behind so many answer an error, with something else beside it.
type faulty struct {
	*tree.Shelf
	after int
	fault api.Errno
}

func (f *faulty) fails() bool {
	f.after--
	return f.after < 0
}

func (f *faulty) Read(page int) (api.Leaf, api.Errno) {
	if f.fails() {
		return api.Leaf{List: []api.Pair{{Key: first + 1}}}, f.fault
	}
	return f.Shelf.Read(page)
}

func (f *faulty) Add(l api.Leaf) (int, api.Errno) {
	if f.fails() {
		return 77, f.fault
	}
	return f.Shelf.Add(l)
}

// own is the caller's own kind of pages, of which a nil panics.
type own struct{ shelf tree.Shelf }

func (o *own) Read(page int) (api.Leaf, api.Errno) { return o.shelf.Read(page) }
func (o *own) Add(l api.Leaf) (int, api.Errno)     { return o.shelf.Add(l) }

// P11.1: volumes that can be, and their pairs.

func TestTheExample(t *testing.T) {
	v := volume(3, 5)
	p := api.Pair{Key: 1<<32 + 3, Val: 5 << 16}
	if got, e := vols.Pair(v); got != p || e != api.OK {
		t.Error(got, e)
	}
	if got, is := vols.Read(p); got != v || !is {
		t.Error(got, is)
	}
}

func TestVolumesThatCanBe(t *testing.T) {
	for _, id := range []int{1, 2, 15, 16} {
		for _, size := range []int{0, 1, 63, 64} {
			for _, root := range []int{0, 1, 255, 256, 510, 511} {
				for _, from := range []int{0, 1, 15, 16} {
					for _, pinned := range []bool{false, true} {
						v := api.Volume{Id: id, Size: size, Root: root, Pinned: pinned, From: from}
						if !vols.Good(v) {
							t.Error(v)
						}
						p, e := vols.Pair(v)
						if p != pairOf(v) || e != api.OK {
							t.Error(v, p, e)
						}
						if got, is := vols.Read(p); got != v || !is {
							t.Error(v, got, is)
						}
					}
				}
			}
		}
	}
}

func TestVolumesThatCannotBe(t *testing.T) {
	for _, v := range wrong() {
		for _, pinned := range []bool{false, true} {
			v.Pinned = pinned
			if vols.Good(v) {
				t.Error(v)
			}
			if p, e := vols.Pair(v); p != (api.Pair{}) || e != api.ErrArg {
				t.Error(v, p, e)
			}
		}
	}
}

func TestVolumesOfAnyKind(t *testing.T) {
	chance := rand.New(rand.NewSource(111))
	for range 30000 {
		v := anyVolume(chance)
		for _, part := range []*int{&v.Id, &v.Size, &v.Root, &v.From} {
			if chance.Intn(8) == 0 {
				*part += chance.Intn(5) - 2
			}
			if chance.Intn(40) == 0 {
				*part = int(chance.Uint64() >> chance.Intn(64))
			}
		}
		want, e := api.Pair{}, api.ErrArg
		if isGood(v) {
			want, e = pairOf(v), api.OK
		}
		if vols.Good(v) != isGood(v) {
			t.Error(v)
		}
		if p, f := vols.Pair(v); p != want || f != e {
			t.Error(v, p, f)
		}
	}
}

func TestPairsOfNone(t *testing.T) {
	good := pairOf(api.Volume{Id: 7, Size: 9, Root: 300, Pinned: true, From: 4})
	for _, p := range []api.Pair{
		{}, {Key: 1}, {Key: 7, Val: good.Val}, {Key: first}, {Key: first, Val: good.Val}, {Key: first - 1}, {Key: first + 17}, {Key: first + 17, Val: good.Val},
		{Key: 2*first - 1}, {Key: 2 * first}, {Key: 2*first + 7, Val: good.Val}, {Key: 3*first + 7}, {Key: 1<<63 + first + 7}, {Key: math.MaxUint64, Val: math.MaxUint64},
		{Key: good.Key, Val: 512}, {Key: good.Key, Val: 1 << 15}, {Key: good.Key, Val: 1<<16 - 1}, {Key: good.Key, Val: 65 << 16}, {Key: good.Key, Val: 1 << 31},
		{Key: good.Key, Val: 1 << 33}, {Key: good.Key, Val: 3 << 32}, {Key: good.Key, Val: 1 << 39}, {Key: good.Key, Val: 17 << 40}, {Key: good.Key, Val: 256 << 40}, {Key: good.Key, Val: 1 << 63}, {Key: good.Key, Val: math.MaxUint64},
	} {
		if v, is := vols.Read(p); v != (api.Volume{}) || is {
			t.Errorf("%x: %v, %t", p, v, is)
		}
	}
}

// Each bit of a pair that is a volume's, turned, and any two of the Val.
func TestPairsThatWereTurned(t *testing.T) {
	chance := rand.New(rand.NewSource(112))
	for _, v := range []api.Volume{{Id: 1}, {Id: 16, Size: 64, Root: 511, Pinned: true, From: 16}, anyVolume(chance), anyVolume(chance), anyVolume(chance)} {
		p := pairOf(v)
		for i := range 64 {
			reads(t, api.Pair{Key: p.Key ^ 1<<i, Val: p.Val})
			for j := range 64 {
				reads(t, api.Pair{Key: p.Key, Val: p.Val ^ 1<<i ^ 1<<j})
				reads(t, api.Pair{Key: p.Key ^ 1<<i, Val: p.Val ^ 1<<j})
			}
			reads(t, api.Pair{Key: p.Key, Val: p.Val ^ 1<<i})
		}
	}
}

func TestPairsOfAnyKind(t *testing.T) {
	chance := rand.New(rand.NewSource(113))
	// all that a part of a Val may be, the others being such as can be
	for n := range uint64(1 << 16) {
		p := pairOf(anyVolume(chance))
		reads(t, api.Pair{Key: p.Key, Val: p.Val&^0xffff + n})
		reads(t, api.Pair{Key: p.Key, Val: p.Val&^0xffff0000 + n<<16})
		reads(t, api.Pair{Key: p.Key, Val: p.Val&^(0xff<<32) + n%256<<32})
		reads(t, api.Pair{Key: p.Key, Val: p.Val%(1<<40) + n<<40})
		reads(t, api.Pair{Key: p.Key + n, Val: p.Val})
		reads(t, api.Pair{Key: n + n%3*first, Val: p.Val})
		reads(t, api.Pair{Key: p.Key, Val: chance.Uint64() >> chance.Intn(64)})
	}
}

// P11.2: volumes in a tree.

func TestAFewVolumes(t *testing.T) {
	s := shelf()
	lists(t, s, 0)
	a := puts(t, s, 0, volume(5, 5))
	b := puts(t, s, a, volume(2, 9))
	c := puts(t, s, b, api.Volume{Id: 16, Size: 64, Root: 511, Pinned: true, From: 16})
	d := puts(t, s, c, api.Volume{Id: 5, From: 2})
	e := drops(t, s, d, 2)
	dropsNone(t, s, e, 2)
	f := drops(t, s, drops(t, s, e, 5), 16)
	lists(t, s, a, volume(5, 5))
	lists(t, s, b, volume(2, 9), volume(5, 5))
	lists(t, s, c, volume(2, 9), volume(5, 5), api.Volume{Id: 16, Size: 64, Root: 511, Pinned: true, From: 16})
	lists(t, s, d, volume(2, 9), api.Volume{Id: 5, From: 2}, api.Volume{Id: 16, Size: 64, Root: 511, Pinned: true, From: 16})
	lists(t, s, e, api.Volume{Id: 5, From: 2}, api.Volume{Id: 16, Size: 64, Root: 511, Pinned: true, From: 16})
	if f != 0 {
		t.Error(f)
	}
}

// All volumes that there may be, in a tree of two levels, among other pairs.
func TestAllVolumes(t *testing.T) {
	pairs := map[uint64]uint64{0: 1, first - 1: 2, 2 * first: 3, math.MaxUint64: 4}
	s, root := built(t, pairs)
	var want []api.Volume
	for id := 16; id >= 1; id-- {
		root = puts(t, s, root, volume(id, id))
		want = slices.Insert(want, 0, volume(id, id))
		lists(t, s, root, want...)
	}
	for key, val := range pairs {
		if v, is, e := tree.Get(s, root, key); v != val || !is || e != api.OK {
			t.Error(key, v, is, e)
		}
	}
	for id := 1; id <= 16; id++ {
		root = drops(t, s, root, id)
		lists(t, s, root, want[id:]...)
	}
	for key, val := range pairs {
		if v, is, e := tree.Get(s, root, key); v != val || !is || e != api.OK {
			t.Error(key, v, is, e)
		}
	}
}

// A pair with a key of volumes that is none's, whether it stands first, last or between.
func TestListOfPairsOfNone(t *testing.T) {
	for _, p := range []api.Pair{
		{Key: first}, {Key: first, Val: 5 << 16}, {Key: first + 17}, {Key: first + 40, Val: 1}, {Key: 2*first - 1}, {Key: first + 1, Val: 512}, {Key: first + 16, Val: 65 << 16},
		{Key: first + 8, Val: 1 << 33}, {Key: first + 9, Val: 17 << 40}, {Key: first + 3, Val: math.MaxUint64},
	} {
		for _, pairs := range []map[uint64]uint64{{}, {first + 1: 0}, {first + 2: 0, first + 15: 0}, {first + 16: 0, 5: 5, 2 * first: 7}} {
			pairs[p.Key] = p.Val
			s, root := built(t, pairs)
			listsNot(t, s, root, api.ErrForm)
		}
	}
}

// Pairs with other keys may have any Val, and play no part.
func TestListAmongOthers(t *testing.T) {
	s, root := built(t, map[uint64]uint64{0: math.MaxUint64, 1: 0, first - 1: 5 << 16, 2 * first: 5 << 16, 2*first + 1: 0, 3*first + 1: 0, math.MaxUint64: 1})
	lists(t, s, root)
	lists(t, s, puts(t, s, root, volume(1, 1)), volume(1, 1))
	s, root = built(t, map[uint64]uint64{1: 5 << 16, 2 * first: 5 << 16, first + 4: 5 << 16})
	lists(t, s, root, volume(4, 5))
}

// Put is layer 8's, node by node; pairs that are none's don't hinder it.
func TestPutIsTheTrees(t *testing.T) {
	chance := rand.New(rand.NewSource(114))
	for i := range 400 {
		pairs := anyPairs(chance)
		if i%4 == 0 {
			pairs[first+40] = 9
			pairs[first+6] = math.MaxUint64
		}
		s, root := built(t, pairs)
		other := shelf(copied(s.List)...)
		v := anyVolume(chance)
		was := v
		want, _ := tree.Put(other, root, pairOf(v).Key, pairOf(v).Val)
		if now := puts(t, s, root, v); now != want || !sameNodes(s.List, other.List) || v != was {
			t.Error(v, now, want)
		}
	}
}

// Drop is layer 8's, node by node, of any Id.
func TestDropIsTheTrees(t *testing.T) {
	chance := rand.New(rand.NewSource(115))
	for i := range 400 {
		pairs := anyPairs(chance)
		if i%4 == 0 {
			pairs[first+40] = 9
			pairs[first+6] = math.MaxUint64
		}
		s, root := built(t, pairs)
		other := shelf(copied(s.List)...)
		id := chance.Intn(60) - 10
		want, wanted, _ := tree.Drop(other, root, uint64(id+first))
		now, is, e := vols.Drop(s, root, id)
		if now != want || is != wanted || e != api.OK || !sameNodes(s.List, other.List) {
			t.Error(id, now, is, e, want, wanted)
		}
	}
}

// The key of any Id is 2^32 and it, modulo 2^64, whether there may be such a volume or not.
func TestDropOfAnyId(t *testing.T) {
	for _, c := range []struct {
		id  int
		key uint64
	}{
		{0, first}, {1, first + 1}, {16, first + 16}, {17, first + 17}, {-1, first - 1}, {-first, 0}, {7 - first, 7}, {-first - 1, math.MaxUint64}, {first - 1, 2*first - 1}, {first, 2 * first},
		{math.MaxInt, 1<<63 + first - 1}, {math.MinInt, 1<<63 + first},
	} {
		s, root := built(t, map[uint64]uint64{c.key: 9, first + 5: 1, 55: 5})
		now := drops(t, s, root, c.id)
		if _, is, e := tree.Get(s, now, c.key); is || e != api.OK {
			t.Error(c.id, is, e)
		}
		if pairs, e := tree.Range(s, now, 0, math.MaxUint64); len(pairs) != 2 || e != api.OK {
			t.Error(c.id, pairs, e)
		}
		dropsNone(t, s, now, c.id)
		dropsNone(t, s, 0, c.id)
	}
}

// Rows of any calls, against a map of volumes; what was stays as it was.
func TestRowsOfCalls(t *testing.T) {
	chance := rand.New(rand.NewSource(116))
	for range 100 {
		pairs := anyPairs(chance)
		s, root := built(t, pairs)
		type old struct {
			root int
			list []api.Volume
		}
		var olds []old
		for range 60 {
			v := anyVolume(chance)
			_, has := pairs[first+uint64(v.Id)]
			switch {
			case chance.Intn(3) > 0:
				root = puts(t, s, root, v)
				pairs[pairOf(v).Key] = pairOf(v).Val
			case has:
				root = drops(t, s, root, v.Id)
				delete(pairs, first+uint64(v.Id))
			default:
				dropsNone(t, s, root, v.Id)
			}
			olds = append(olds, old{root, inside(pairs)})
		}
		for _, o := range olds {
			lists(t, s, o.root, o.list...)
		}
		all, e := tree.Range(s, root, 0, math.MaxUint64)
		if len(all) != len(pairs) || e != api.OK {
			t.Error(len(all), len(pairs), e)
		}
		for _, p := range all {
			if val, is := pairs[p.Key]; !is || val != p.Val {
				t.Error(p, val)
			}
		}
	}
}

// A store is pages as well.
func TestVolumesOfAStore(t *testing.T) {
	d := disc.New(mains.New(), 10*api.PageSecs)
	st, e := store.Format(d, [2]int{9, 9}, 4)
	if e != api.OK {
		t.Fatal(e)
	}
	root := puts(t, st, 0, volume(3, 5))
	root = puts(t, st, root, volume(1, 64))
	if e := st.Commit(root, root); e != api.OK {
		t.Fatal(e)
	}
	st, e = store.Open(d)
	if e != api.OK {
		t.Fatal(e)
	}
	lists(t, st, st.Head().Root, volume(1, 64), volume(3, 5))
}

// P11.2: errors.

func TestWrongVolumesAreToldFirst(t *testing.T) {
	for _, v := range wrong() {
		for _, p := range []tree.Pages{nil, (*tree.Shelf)(nil), (*own)(nil), shelf(), &faulty{Shelf: shelf(), fault: api.ErrDown}} {
			putsNot(t, p, 0, v, api.ErrArg)
			putsNot(t, p, 99, v, api.ErrArg)
		}
		s, root := tall()
		was := copied(s.List)
		putsNot(t, s, root, v, api.ErrArg)
		if !sameNodes(s.List, was) {
			t.Error(v)
		}
	}
}

func TestPagesThatAreNot(t *testing.T) {
	for _, p := range []tree.Pages{nil, (*tree.Shelf)(nil), (*store.Store)(nil), (*own)(nil)} {
		lists(t, p, 0)
		dropsNone(t, p, 0, 3)
		for _, root := range []int{0, 1, -1} {
			putsNot(t, p, root, volume(3, 5), api.ErrNil)
		}
		listsNot(t, p, 1, api.ErrNil)
		dropsNot(t, p, 1, 3, api.ErrNil)
	}
}

func TestPagesWithoutRoom(t *testing.T) {
	s := &tree.Shelf{Room: 1}
	root := puts(t, s, 0, volume(3, 5))
	putsNot(t, s, root, volume(4, 5), api.ErrPages)
	putsNot(t, s, root, volume(3, 6), api.ErrPages)
	lists(t, s, root, volume(3, 5))
	if now := drops(t, s, root, 3); now != 0 {
		t.Error(now)
	}
	s.Room = 2
	root = puts(t, s, root, volume(4, 6))
	dropsNot(t, s, root, 4, api.ErrPages)
	lists(t, s, root, volume(3, 5), volume(4, 6))
}

func TestATreeThatIsTooHigh(t *testing.T) {
	s, root := tall()
	if e := tree.Check(s, root); e != api.OK {
		t.Fatal(e)
	}
	was := copied(s.List)
	putsNot(t, s, root, volume(3, 5), api.ErrFull)
	if !sameNodes(s.List, was) {
		t.Error("nodes were added")
	}
	puts(t, s, root, volume(4, 5))
}

// Each use of the pages may fail: the error is told, with nothing beside it.
func TestPagesThatFail(t *testing.T) {
	pairs := map[uint64]uint64{}
	for i := range uint64(40) {
		pairs[i] = i
	}
	for id := 1; id <= 16; id++ {
		if id != 8 {
			pairs[first+uint64(id)] = uint64(id) << 16
		}
	}
	for _, fault := range []api.Errno{api.ErrDown, api.ErrRange, api.ErrPages, api.ErrNil, 77, -1} {
		s, root := built(t, pairs)
		was := len(s.List)
		ask := func(after int) *faulty {
			return &faulty{Shelf: shelf(copied(s.List)...), after: after, fault: fault}
		}
		// the root, and the leaves with keys of volumes
		for after := range 3 {
			listsNot(t, ask(after), root, fault)
		}
		lists(t, ask(3), root, inside(pairs)...)
		// down to the leaf, and the new nodes: two leaves in the place of a full one, or one
		for after := range 4 {
			dropsNot(t, ask(after), root, 9, fault)
		}
		drops(t, ask(4), root, 9)
		uses := 0
		for ; uses < 10; uses++ {
			if _, e := vols.Put(ask(uses), root, volume(8, 8)); e == api.OK {
				break
			}
			putsNot(t, ask(uses), root, volume(8, 8), fault)
		}
		if uses < 4 {
			t.Error(uses)
		}
		if len(s.List) != was {
			t.Error("the shelf was changed")
		}
	}
}

// Trees that aren't sound: ErrForm, where a node is met that isn't one level below the one that leads there; the pages' error, where there is none.
func TestTreesThatAreNot(t *testing.T) {
	leaf := api.Leaf{List: []api.Pair{{Key: first + 1}, {Key: first + 2}}}
	for i, s := range []*tree.Shelf{
		shelf(leaf, api.Leaf{Level: 2, List: []api.Pair{{Key: first, Val: 1}, {Key: first + 1, Val: 1}}}),
		shelf(api.Leaf{}, api.Leaf{Level: 1, List: []api.Pair{{Key: first, Val: 2}, {Key: 2 * first, Val: 2}}}),
	} {
		listsNot(t, s, 2, api.ErrForm)
		putsNot(t, s, 2, volume(1, 1), api.ErrForm)
		dropsNot(t, s, 2, 1, api.ErrForm)
		if len(s.List) != 2 {
			t.Error(i)
		}
	}
	s := shelf(leaf)
	for _, root := range []int{2, -1, 512, math.MaxInt, math.MinInt} {
		listsNot(t, s, root, api.ErrRange)
		putsNot(t, s, root, volume(1, 1), api.ErrRange)
		dropsNot(t, s, root, 1, api.ErrRange)
	}
}

// What is answered is new memory each time.
func TestListsShareNothing(t *testing.T) {
	s, root := built(t, map[uint64]uint64{first + 1: 0, first + 2: 5 << 16})
	one, _ := vols.List(s, root)
	two, _ := vols.List(s, root)
	one[0] = volume(9, 9)
	_ = append(one[:1], volume(8, 8))
	if two[0] != volume(1, 0) || two[1] != volume(2, 5) {
		t.Error(two)
	}
	lists(t, s, root, volume(1, 0), volume(2, 5))
}
