package maps_test

import (
	"math"
	"math/rand"
	"slices"
	"testing"

	"tierce/api"
	"tierce/disc"
	"tierce/mains"
	"tierce/maps"
	"tierce/store"
	"tierce/tree"
)

// Helpers: maps as they should be.

// chart is which chunk stands at which place; 0: none.
type chart [64]int

// entries answers those of a chart, rising.
func (c chart) entries() []maps.Entry {
	var list []maps.Entry
	for at, chunk := range c {
		if chunk != 0 {
			list = append(list, maps.Entry{At: at, Chunk: chunk})
		}
	}
	return list
}

// pairs answers those that the tree of a chart has.
func (c chart) pairs() []api.Pair {
	var list []api.Pair
	for at, chunk := range c {
		if chunk != 0 {
			list = append(list, api.Pair{Key: uint64(at), Val: uint64(chunk)})
		}
	}
	return list
}

// trimmed answers a chart without what stands at places from size on, and the entries that were there.
func (c chart) trimmed(size int) (chart, []maps.Entry) {
	gone := chart{}
	for at := range c {
		if at >= size {
			gone[at], c[at] = c[at], 0
		}
	}
	return c, gone.entries()
}

// full answers a chart in which a chunk stands at each place.
func full() chart {
	var c chart
	for at := range c {
		c[at] = 1023 - at
	}
	return c
}

// anyChart answers one with few chunks, or many, or one at each place.
func anyChart(chance *rand.Rand) chart {
	var c chart
	of := 1 + chance.Intn(5)
	for at := range c {
		if chance.Intn(of) == 0 {
			c[at] = anyChunk(chance)
		}
	}
	return c
}

// anyChunk answers a chunk's number, often the first or the last one.
func anyChunk(chance *rand.Rand) int {
	return []int{1, 1023, 1 + chance.Intn(1023), 1 + chance.Intn(1023)}[chance.Intn(4)]
}

// Arguments that can't be.
func noPlaces() []int {
	return []int{-1, 64, 65, 255, 256, 1 << 16, 1 << 32, 1<<32 + 5, -1 << 32, math.MaxInt, math.MinInt, math.MinInt + 5}
}

func noNumbers() []int {
	return []int{0, -1, 1024, 1025, 1 << 16, 1 << 32, 1<<32 + 5, -1 << 32, math.MaxInt, math.MinInt, math.MinInt + 5}
}

// Helpers: trees.

// shelf answers one with these nodes, and all the room that there may be.
func shelf(list ...api.Leaf) *tree.Shelf { return &tree.Shelf{List: list, Room: 511} }

// copied answers nodes that share no memory with list.
func copied(list []api.Leaf) []api.Leaf {
	var out []api.Leaf
	for _, l := range list {
		out = append(out, api.Leaf{Level: l.Level, List: slices.Clone(l.List)})
	}
	return out
}

// sameNodes tells whether two rows of nodes are one.
func sameNodes(a, b []api.Leaf) bool {
	return slices.EqualFunc(a, b, func(a, b api.Leaf) bool {
		return a.Level == b.Level && slices.Equal(a.List, b.List)
	})
}

// built answers a shelf with a tree of these pairs, and its root.
func built(t *testing.T, pairs ...api.Pair) (*tree.Shelf, int) {
	t.Helper()
	s := shelf()
	root, e := tree.Build(s, pairs)
	if e != api.OK {
		t.Fatal(e)
	}
	return s, root
}

// grown answers a shelf with the map of a chart to which entry by entry came, in any order, and its root.
func grown(t *testing.T, chance *rand.Rand, c chart) (*tree.Shelf, int) {
	t.Helper()
	s, root := shelf(), 0
	list := c.entries()
	for _, i := range chance.Perm(len(list)) {
		root = sets(t, s, root, list[i].At, list[i].Chunk)
	}
	return s, root
}

// Helpers: calls that are as they should be.

// isMap fails the test, unless the sound tree of a root is the map of a chart, asked in each way that there is.
func isMap(t *testing.T, p tree.Pages, root int, c chart) {
	t.Helper()
	if e := tree.Check(p, root); e != api.OK {
		t.Errorf("the tree %d: %v", root, e)
	}
	if pairs, e := tree.Range(p, root, 0, math.MaxUint64); !slices.Equal(pairs, c.pairs()) || e != api.OK {
		t.Errorf("the pairs of %d = %v, %v; want %v", root, pairs, e, c.pairs())
	}
	lists(t, p, root, c.entries()...)
	for at, chunk := range c {
		gets(t, p, root, at, chunk)
	}
	if (root == 0) != (c == chart{}) {
		t.Errorf("%d is the root of %v", root, c.entries())
	}
}

func gets(t *testing.T, p tree.Pages, root, at, want int) {
	t.Helper()
	if chunk, e := maps.Get(p, root, at); chunk != want || e != api.OK {
		t.Errorf("Get(%d, %d) = %d, %v; want %d", root, at, chunk, e, want)
	}
}

func getsNot(t *testing.T, p tree.Pages, root, at int, want api.Errno) {
	t.Helper()
	if chunk, e := maps.Get(p, root, at); chunk != 0 || e != want {
		t.Errorf("Get(%d, %d) = %d, %v; want %v", root, at, chunk, e, want)
	}
}

func sets(t *testing.T, p tree.Pages, root, at, chunk int) int {
	t.Helper()
	now, e := maps.Set(p, root, at, chunk)
	if e != api.OK {
		t.Fatal(at, chunk, e)
	}
	return now
}

func setsNot(t *testing.T, p tree.Pages, root, at, chunk int, want api.Errno) {
	t.Helper()
	if now, e := maps.Set(p, root, at, chunk); now != 0 || e != want {
		t.Errorf("Set(%d, %d, %d) = %d, %v; want %v", root, at, chunk, now, e, want)
	}
}

func clears(t *testing.T, p tree.Pages, root, at int) int {
	t.Helper()
	now, e := maps.Clear(p, root, at)
	if e != api.OK {
		t.Fatal(at, e)
	}
	return now
}

func clearsNot(t *testing.T, p tree.Pages, root, at int, want api.Errno) {
	t.Helper()
	if now, e := maps.Clear(p, root, at); now != 0 || e != want {
		t.Errorf("Clear(%d, %d) = %d, %v; want %v", root, at, now, e, want)
	}
}

func lists(t *testing.T, p tree.Pages, root int, want ...maps.Entry) {
	t.Helper()
	if list, e := maps.List(p, root); !slices.Equal(list, want) || e != api.OK {
		t.Errorf("List(%d) = %v, %v; want %v", root, list, e, want)
	}
}

func listsNot(t *testing.T, p tree.Pages, root int, want api.Errno) {
	t.Helper()
	if list, e := maps.List(p, root); len(list) != 0 || e != want {
		t.Errorf("List(%d) = %v, %v; want %v", root, list, e, want)
	}
}

func trims(t *testing.T, p tree.Pages, root, size int, want ...maps.Entry) int {
	t.Helper()
	now, gone, e := maps.Trim(p, root, size)
	if e != api.OK {
		t.Fatal(size, e)
	}
	if !slices.Equal(gone, want) {
		t.Errorf("Trim(%d, %d) tells %v; want %v", root, size, gone, want)
	}
	return now
}

func trimsNot(t *testing.T, p tree.Pages, root, size int, want api.Errno) {
	t.Helper()
	if now, gone, e := maps.Trim(p, root, size); now != 0 || len(gone) != 0 || e != want {
		t.Errorf("Trim(%d, %d) = %d, %v, %v; want %v", root, size, now, gone, e, want)
	}
}

// Helpers: pages of other kinds.

// faulty is a shelf of which all uses behind so many answer an error, with something else beside it.
type faulty struct {
	*tree.Shelf
	after int
	fault api.Errno
}

func (f *faulty) fails() bool {
	f.after--
	return f.after < 0
}

func (f *faulty) Read(page int) (api.Leaf, api.Errno) {
	if f.fails() {
		return api.Leaf{List: []api.Pair{{Key: 5, Val: 9}}}, f.fault
	}
	return f.Shelf.Read(page)
}

func (f *faulty) Add(l api.Leaf) (int, api.Errno) {
	if f.fails() {
		return 77, f.fault
	}
	return f.Shelf.Add(l)
}

// own is the caller's own kind of pages, of which a nil panics.
type own struct{ shelf tree.Shelf }

func (o *own) Read(page int) (api.Leaf, api.Errno) { return o.shelf.Read(page) }
func (o *own) Add(l api.Leaf) (int, api.Errno)     { return o.shelf.Add(l) }

// P12.1: maps, and how they change.

func TestTheExample(t *testing.T) {
	s := shelf()
	root := sets(t, s, 0, 5, 9)
	lists(t, s, root, maps.Entry{At: 5, Chunk: 9})
	isMap(t, s, root, chart{5: 9})
}

func TestNoMap(t *testing.T) {
	s := shelf()
	isMap(t, s, 0, chart{})
	for at := range 64 {
		if now := clears(t, s, 0, at); now != 0 {
			t.Error(at, now)
		}
	}
	for _, size := range []int{0, 1, 63, 64, 65, math.MaxInt} {
		if now := trims(t, s, 0, size); now != 0 {
			t.Error(size, now)
		}
	}
	if len(s.List) != 0 {
		t.Error(s.List)
	}
}

func TestAFewEntries(t *testing.T) {
	s := shelf()
	a := sets(t, s, 0, 63, 1023)
	b := sets(t, s, a, 0, 1)
	c := sets(t, s, b, 7, 1)
	d := sets(t, s, c, 0, 2)
	e := clears(t, s, d, 63)
	f := clears(t, s, clears(t, s, e, 0), 7)
	isMap(t, s, a, chart{63: 1023})
	isMap(t, s, b, chart{0: 1, 63: 1023})
	isMap(t, s, c, chart{0: 1, 7: 1, 63: 1023})
	isMap(t, s, d, chart{0: 2, 7: 1, 63: 1023})
	isMap(t, s, e, chart{0: 2, 7: 1})
	isMap(t, s, f, chart{})
}

// Each place, and each number of a chunk.
func TestAllThatCanStand(t *testing.T) {
	for chunk := 1; chunk <= 1023; chunk++ {
		s, c := shelf(), chart{}
		at := chunk % 64
		c[at] = chunk
		isMap(t, s, sets(t, s, 0, at, chunk), c)
	}
	s, root, c := shelf(), 0, chart{}
	for at := 63; at >= 0; at-- {
		c[at] = 1023 - at
		root = sets(t, s, root, at, c[at])
		isMap(t, s, root, c)
	}
	for at := range 64 {
		c[at] = 0
		root = clears(t, s, root, at)
		isMap(t, s, root, c)
	}
}

// What is set once more stands there; that which stands there already, too.
func TestSetInThePlaceOfAnother(t *testing.T) {
	c := full()
	s, root := built(t, c.pairs()...)
	for _, at := range []int{0, 14, 15, 30, 63} {
		for _, chunk := range []int{1, 1023, c[at], 512, 512} {
			c[at] = chunk
			root = sets(t, s, root, at, chunk)
			isMap(t, s, root, c)
		}
	}
}

// Where nothing stands Clear answers the root itself, and adds nothing.
func TestClearOfNothing(t *testing.T) {
	chance := rand.New(rand.NewSource(121))
	for range 40 {
		c := anyChart(chance)
		s, root := grown(t, chance, c)
		was := copied(s.List)
		for at, chunk := range c {
			if chunk != 0 {
				continue
			}
			if now := clears(t, s, root, at); now != root || !sameNodes(s.List, was) {
				t.Error(at, now, root)
			}
		}
	}
}

// All sizes, of maps of all kinds: from what the map was, and from what the size ahead left.
func TestTrim(t *testing.T) {
	chance := rand.New(rand.NewSource(122))
	kinds := []chart{{}, {0: 1}, {63: 1023}, {5: 9}, {0: 1, 63: 1}, full()}
	for range 20 {
		kinds = append(kinds, anyChart(chance))
	}
	for _, c := range kinds {
		s, root := grown(t, chance, c)
		other, now := built(t, c.pairs()...)
		left := c
		for size := 66; size >= 0; size-- {
			want, gone := c.trimmed(size)
			isMap(t, s, trims(t, s, root, size, gone...), want)
			left, gone = left.trimmed(size)
			now = trims(t, other, now, size, gone...)
			isMap(t, other, now, left)
		}
	}
}

func TestTrimOfNothing(t *testing.T) {
	c := chart{2: 4, 40: 5}
	s, root := built(t, c.pairs()...)
	// Then the map is as it was, and so is its root: no page is needed.
	was := copied(s.List)
	for _, size := range []int{41, 42, 63, 64, 65, 1 << 32, 1<<32 + 2, math.MaxInt} {
		if now := trims(t, s, root, size); now != root || !sameNodes(s.List, was) {
			t.Error(size, now)
		}
	}
	isMap(t, s, root, c)
	want := chart{2: 4}
	for _, size := range []int{40, 39, 3} {
		isMap(t, s, trims(t, s, root, size, maps.Entry{At: 40, Chunk: 5}), want)
	}
	for _, size := range []int{2, 1, 0} {
		isMap(t, s, trims(t, s, root, size, c.entries()...), chart{})
	}
}

// A map of all places may be trimmed where there is room for a few nodes alone: as many as the map that is left has by Build.
func TestTrimWithLittleRoom(t *testing.T) {
	c := full()
	for size := range 64 {
		want, gone := c.trimmed(size)
		other, _ := built(t, want.pairs()...)
		s, root := built(t, c.pairs()...)
		s.Room = len(s.List) + len(other.List)
		isMap(t, s, trims(t, s, root, size, gone...), want)
	}
}

func TestArgumentsThatCannotBe(t *testing.T) {
	c := full()
	s, root := built(t, c.pairs()...)
	was := copied(s.List)
	pages := []tree.Pages{s, nil, (*tree.Shelf)(nil), (*own)(nil), shelf(), &faulty{Shelf: shelf(), fault: api.ErrDown}}
	for _, p := range pages {
		for _, r := range []int{root, 0, 99, -1} {
			for _, at := range noPlaces() {
				getsNot(t, p, r, at, api.ErrArg)
				setsNot(t, p, r, at, 5, api.ErrArg)
				setsNot(t, p, r, at, 0, api.ErrArg)
				clearsNot(t, p, r, at, api.ErrArg)
			}
			for _, chunk := range noNumbers() {
				setsNot(t, p, r, 5, chunk, api.ErrArg)
			}
			for _, size := range []int{-1, -2, -64, -1 << 32, math.MinInt, math.MinInt + 5} {
				trimsNot(t, p, r, size, api.ErrArg)
			}
		}
	}
	if !sameNodes(s.List, was) {
		t.Error("nodes were added, or changed")
	}
}

// A store is pages as well.
func TestMapsOfAStore(t *testing.T) {
	d := disc.New(mains.New(), 10*api.PageSecs)
	st, e := store.Format(d, [2]int{9, 9}, 4)
	if e != api.OK {
		t.Fatal(e)
	}
	root := sets(t, st, sets(t, st, 0, 63, 7), 2, 1023)
	if e := st.Commit(root, root); e != api.OK {
		t.Fatal(e)
	}
	st, e = store.Open(d)
	if e != api.OK {
		t.Fatal(e)
	}
	root = st.Head().Root
	st.Keep(root)
	isMap(t, st, root, chart{2: 1023, 63: 7})
	isMap(t, st, trims(t, st, root, 63, maps.Entry{At: 63, Chunk: 7}), chart{2: 1023})
	isMap(t, st, clears(t, st, root, 2), chart{63: 7})
	isMap(t, st, root, chart{2: 1023, 63: 7})
}

// P12.1: the trees' errors.

func TestPagesThatAreNot(t *testing.T) {
	for _, p := range []tree.Pages{nil, (*tree.Shelf)(nil), (*store.Store)(nil), (*own)(nil)} {
		gets(t, p, 0, 5, 0)
		lists(t, p, 0)
		if now := clears(t, p, 0, 5); now != 0 {
			t.Error(now)
		}
		if now := trims(t, p, 0, 5); now != 0 {
			t.Error(now)
		}
		for _, root := range []int{0, 1, -1} {
			setsNot(t, p, root, 5, 9, api.ErrNil)
		}
		getsNot(t, p, 1, 5, api.ErrNil)
		clearsNot(t, p, 1, 5, api.ErrNil)
		listsNot(t, p, 1, api.ErrNil)
		for _, size := range []int{0, 5, 64, math.MaxInt} {
			trimsNot(t, p, 1, size, api.ErrNil)
		}
	}
}

func TestPagesWithoutRoom(t *testing.T) {
	s := &tree.Shelf{}
	setsNot(t, s, 0, 5, 9, api.ErrPages)
	s.Room = 2
	root := sets(t, s, sets(t, s, 0, 5, 9), 6, 10)
	setsNot(t, s, root, 7, 11, api.ErrPages)
	setsNot(t, s, root, 5, 8, api.ErrPages)
	clearsNot(t, s, root, 5, api.ErrPages)
	trimsNot(t, s, root, 6, api.ErrPages)
	isMap(t, s, root, chart{5: 9, 6: 10})
	if now := clears(t, s, root, 7); now != root {
		t.Error(now)
	}
	isMap(t, s, trims(t, s, root, 0, maps.Entry{At: 5, Chunk: 9}, maps.Entry{At: 6, Chunk: 10}), chart{})
}

// Each use of the pages may fail: the error is told, with nothing beside it.
func TestPagesThatFail(t *testing.T) {
	chance := rand.New(rand.NewSource(123))
	c := full()
	c[20] = 0
	for _, fault := range []api.Errno{api.ErrDown, api.ErrRange, api.ErrPages, api.ErrNil, 77, -1} {
		s, root := grown(t, chance, c)
		failsEachTime(t, s, fault, 2, func(p tree.Pages) (bool, api.Errno) {
			chunk, e := maps.Get(p, root, 30)
			return chunk == 0, e
		})
		failsEachTime(t, s, fault, 4, func(p tree.Pages) (bool, api.Errno) {
			now, e := maps.Set(p, root, 20, 9)
			return now == 0, e
		})
		failsEachTime(t, s, fault, 4, func(p tree.Pages) (bool, api.Errno) {
			now, e := maps.Clear(p, root, 30)
			return now == 0, e
		})
		failsEachTime(t, s, fault, 5, func(p tree.Pages) (bool, api.Errno) {
			list, e := maps.List(p, root)
			return len(list) == 0, e
		})
		failsEachTime(t, s, fault, 8, func(p tree.Pages) (bool, api.Errno) {
			now, gone, e := maps.Trim(p, root, 40)
			return now == 0 && len(gone) == 0, e
		})
	}
}

// failsEachTime lets a call's uses of a shelf's nodes fail, from the first, the second and so on, till it comes through; it has so many at least.
func failsEachTime(t *testing.T, s *tree.Shelf, fault api.Errno, least int, call func(tree.Pages) (bool, api.Errno)) {
	t.Helper()
	was := copied(s.List)
	uses := 0
	for ; uses < 99; uses++ {
		other := shelf(copied(s.List)...)
		isZero, e := call(&faulty{Shelf: other, after: uses, fault: fault})
		if !sameNodes(other.List[:len(was)], was) {
			t.Error("nodes were changed")
		}
		if e == api.OK {
			break
		}
		if !isZero || e != fault {
			t.Error(uses, isZero, e, fault)
		}
	}
	if uses < least || uses == 99 {
		t.Error(uses, least)
	}
}

// Trees that aren't sound: ErrForm, where a node is met that isn't one level below the one that leads there; the pages' error, where there is none.
func TestTreesThatAreNot(t *testing.T) {
	leaf := api.Leaf{List: []api.Pair{{Key: 1, Val: 5}, {Key: 2, Val: 6}}}
	for i, s := range []*tree.Shelf{
		shelf(leaf, api.Leaf{Level: 2, List: []api.Pair{{Key: 1, Val: 1}, {Key: 2, Val: 1}}}),
		shelf(api.Leaf{}, api.Leaf{Level: 1, List: []api.Pair{{Key: 0, Val: 2}, {Key: 9, Val: 2}}}),
	} {
		for at := range 64 {
			getsNot(t, s, 2, at, api.ErrForm)
			setsNot(t, s, 2, at, 5, api.ErrForm)
			clearsNot(t, s, 2, at, api.ErrForm)
		}
		listsNot(t, s, 2, api.ErrForm)
		for _, size := range []int{0, 1, 64, math.MaxInt} {
			trimsNot(t, s, 2, size, api.ErrForm)
		}
		if len(s.List) != 2 {
			t.Error(i)
		}
	}
	s := shelf(leaf)
	for _, root := range []int{2, -1, 512, math.MaxInt, math.MinInt} {
		getsNot(t, s, root, 1, api.ErrRange)
		setsNot(t, s, root, 1, 1, api.ErrRange)
		clearsNot(t, s, root, 1, api.ErrRange)
		listsNot(t, s, root, api.ErrRange)
		trimsNot(t, s, root, 1, api.ErrRange)
		trimsNot(t, s, root, 64, api.ErrRange)
	}
}

// P12.2: pairs of no entry, and lists.

// others answers pairs that no entry has: their keys are no places, or their Vals no numbers of chunks.
func others() []api.Pair {
	var list []api.Pair
	for _, key := range []uint64{64, 65, 256 + 5, 1<<16 + 5, 1 << 32, 1<<32 + 5, 1 << 63, 1<<63 + 5, math.MaxUint64 - 5, math.MaxUint64} {
		list = append(list, api.Pair{Key: key, Val: 5})
	}
	for _, key := range []uint64{0, 5, 31, 63} {
		for _, val := range []uint64{0, 1024, 1025, 1<<16 + 5, 1 << 32, 1<<32 + 5, 1 << 63, 1<<63 + 5, math.MaxUint64} {
			list = append(list, api.Pair{Key: key, Val: val})
		}
	}
	return append(list, api.Pair{Key: 64}, api.Pair{Key: math.MaxUint64, Val: math.MaxUint64})
}

// Whether the other pair stands alone, first, last or between, in a tree of one level or of two.
func TestListOfOtherPairs(t *testing.T) {
	for _, p := range others() {
		for _, c := range []chart{{}, {1: 1}, {1: 1, 62: 2}, {40: 3}, full()} {
			s, root := built(t, c.pairs()...)
			root, e := tree.Put(s, root, p.Key, p.Val)
			if e != api.OK {
				t.Fatal(e)
			}
			listsNot(t, s, root, api.ErrForm)
		}
	}
}

// Each key and each Val that is near to one of an entry.
func TestListOfOnePair(t *testing.T) {
	for key := range uint64(300) {
		for _, val := range []uint64{0, 1, 2, 63, 64, 512, 1022, 1023, 1024, 1025, 2047} {
			s, root := built(t, api.Pair{Key: key, Val: val})
			if key <= 63 && 1 <= val && val <= 1023 {
				lists(t, s, root, maps.Entry{At: int(key), Chunk: int(val)})
			} else {
				listsNot(t, s, root, api.ErrForm)
			}
		}
	}
	for val := range uint64(3000) {
		s, root := built(t, api.Pair{Key: 7, Val: val})
		if 1 <= val && val <= 1023 {
			lists(t, s, root, maps.Entry{At: 7, Chunk: int(val)})
		} else {
			listsNot(t, s, root, api.ErrForm)
		}
	}
}

// Of trees with other pairs nothing is promised of the other calls, but that no chunk is told that can't be.
func TestOtherPairsAreNotTold(t *testing.T) {
	for _, p := range others() {
		s, root := built(t, p)
		for _, at := range []int{0, 5, 31, 63} {
			if chunk, _ := maps.Get(s, root, at); chunk != 0 {
				t.Error(p, at, chunk)
			}
		}
		for _, size := range []int{0, 6, 64, math.MaxInt} {
			if _, gone, _ := maps.Trim(s, root, size); len(gone) != 0 {
				t.Error(p, size, gone)
			}
		}
	}
}

func TestGoodLists(t *testing.T) {
	type list = []maps.Entry
	for _, c := range []struct {
		list list
		size int
	}{
		{nil, 0}, {list{}, 0}, {nil, 64}, {nil, -1}, {nil, math.MinInt}, {list{{0, 1}}, 1}, {list{{0, 1023}}, 64}, {list{{63, 1}}, 64}, {list{{63, 1}}, math.MaxInt},
		{list{{62, 1023}}, 63}, {list{{0, 1}, {1, 1}}, 2}, {list{{0, 9}, {5, 3}, {6, 3}}, 7}, {full().entries(), 64}, {full().entries(), 65}, {list{{5, 9}}, 1 << 32},
	} {
		if !maps.Good(c.list, c.size) {
			t.Error(c)
		}
	}
	for _, c := range []struct {
		list list
		size int
	}{
		{list{{0, 1}}, 0}, {list{{0, 1}}, -1}, {list{{0, 1}}, math.MinInt}, {list{{1, 1}}, 1}, {list{{63, 1}}, 63}, {list{{64, 1}}, 64}, {list{{64, 1}}, 65}, {list{{64, 1}}, math.MaxInt},
		{list{{-1, 1}}, 64}, {list{{math.MinInt, 1}}, 64}, {list{{math.MaxInt, 1}}, math.MaxInt}, {list{{math.MinInt, 1}}, math.MinInt}, {list{{1<<32 + 5, 9}}, math.MaxInt},
		{list{{0, 0}}, 64}, {list{{0, -1}}, 64}, {list{{0, 1024}}, 64}, {list{{0, math.MaxInt}}, 64}, {list{{0, math.MinInt}}, 64}, {list{{0, 1<<32 + 5}}, 64},
		{list{{1, 1}, {1, 1}}, 64}, {list{{1, 1}, {1, 2}}, 64}, {list{{1, 2}, {0, 1}}, 64}, {list{{0, 1}, {2, 2}, {1, 3}}, 64}, {list{{0, 1}, {2, 2}, {2, 3}}, 64},
		{list{{-1, 1}, {0, 1}}, 64}, {list{{0, 1}, {1, 0}}, 64}, {list{{0, 1}, {1, 1024}}, 64}, {list{{0, 0}, {1, 1}}, 64}, {list{{0, 1}, {64, 1}}, 100}, {full().entries(), 63}, {full().entries(), 0},
	} {
		if maps.Good(c.list, c.size) {
			t.Error(c)
		}
	}
}

// Lists that are good, and such with one thing that isn't, at each place of the list.
func TestGoodListsOfAnyKind(t *testing.T) {
	chance := rand.New(rand.NewSource(124))
	for range 2000 {
		list := anyChart(chance).entries()
		if len(list) == 0 {
			continue
		}
		last := list[len(list)-1].At
		for size := range 70 {
			if maps.Good(list, size) != (last < size) {
				t.Error(list, size)
			}
		}
		i := chance.Intn(len(list))
		was := list[i]
		wrong := []maps.Entry{{At: noPlaces()[chance.Intn(12)], Chunk: was.Chunk}, {At: was.At, Chunk: noNumbers()[chance.Intn(11)]}}
		if i > 0 {
			wrong = append(wrong, maps.Entry{At: list[i-1].At, Chunk: 7}, maps.Entry{At: list[0].At - 1, Chunk: 7})
		}
		for _, list[i] = range wrong {
			copied := slices.Clone(list)
			if maps.Good(list, 64) || maps.Good(list, math.MaxInt) || !slices.Equal(list, copied) {
				t.Error(list)
			}
		}
	}
}

// P12.3: what was stays.

// Rows of any calls, against charts: each map that there was is still what it was, and no node is changed.
func TestRowsOfCalls(t *testing.T) {
	chance := rand.New(rand.NewSource(125))
	for range 60 {
		c := anyChart(chance)
		s, root := grown(t, chance, c)
		roots, charts := []int{root}, []chart{c}
		for range 60 {
			// A snap goes on from what was.
			i := len(roots) - 1
			if chance.Intn(6) == 0 {
				i = chance.Intn(len(roots))
			}
			root, c := roots[i], charts[i]
			was := copied(s.List)
			at := chance.Intn(64)
			switch n := chance.Intn(20); {
			case n == 0:
				var gone []maps.Entry
				c, gone = c.trimmed(at)
				root = trims(t, s, root, at, gone...)
			case n < 8:
				c[at] = 0
				root = clears(t, s, root, at)
			default:
				c[at] = anyChunk(chance)
				root = sets(t, s, root, at, c[at])
			}
			if !sameNodes(s.List[:len(was)], was) {
				t.Fatal("nodes were changed")
			}
			roots, charts = append(roots, root), append(charts, c)
		}
		for i := range roots {
			isMap(t, s, roots[i], charts[i])
		}
	}
}

// What is answered is new memory each time.
func TestListsShareNothing(t *testing.T) {
	c := chart{1: 5, 2: 6, 3: 7}
	s, root := built(t, c.pairs()...)
	one, _ := maps.List(s, root)
	two, _ := maps.List(s, root)
	_, three, _ := maps.Trim(s, root, 2)
	for _, list := range [][]maps.Entry{one, three} {
		for i := range list[:cap(list)] {
			list[:cap(list)][i] = maps.Entry{At: 9, Chunk: 9}
		}
	}
	if !slices.Equal(two, c.entries()) {
		t.Error(two)
	}
	isMap(t, s, root, c)
}
