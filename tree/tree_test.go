package tree_test

import (
	"fmt"
	"math"
	"math/rand"
	"slices"
	"testing"

	"tierce/api"
	"tierce/disc"
	"tierce/leaf"
	"tierce/mains"
	"tierce/store"
	"tierce/tree"
)

// What a tree works on: a shelf and a store are.
var (
	_ tree.Pages = (*tree.Shelf)(nil)
	_ tree.Pages = (*store.Store)(nil)
)

const top = math.MaxUint64

// Helpers: nodes and shelves.

// low answers a leaf with these keys, and twice that at each.
func low(keys ...uint64) api.Leaf {
	var l api.Leaf
	for _, k := range keys {
		l.List = append(l.List, api.Pair{Key: k, Val: 2 * k})
	}
	return l
}

// up answers a node above the leaves, of keys and pages by turns.
func up(level int, list ...uint64) api.Leaf {
	l := api.Leaf{Level: level}
	for i := 0; i < len(list); i += 2 {
		l.List = append(l.List, api.Pair{Key: list[i], Val: list[i+1]})
	}
	return l
}

// shelf answers one with these nodes, and all the room that there may be.
func shelf(list ...api.Leaf) *tree.Shelf { return &tree.Shelf{List: list, Room: 511} }

// same tells whether two nodes are one, a list of nothing being nil or empty.
func same(a, b api.Leaf) bool {
	return a.Level == b.Level && slices.Equal(a.List, b.List)
}

// copied answers nodes that share no memory with list.
func copied(list []api.Leaf) []api.Leaf {
	var out []api.Leaf
	for _, l := range list {
		out = append(out, api.Leaf{Level: l.Level, List: slices.Clone(l.List)})
	}
	return out
}

// unchanged fails the test, unless s begins with the nodes that were there.
func unchanged(t *testing.T, s *tree.Shelf, was []api.Leaf) {
	t.Helper()
	if len(s.List) < len(was) || !slices.EqualFunc(s.List[:len(was)], was, same) {
		t.Errorf("%v; was %v", s.List, was)
	}
}

// run answers so many rising keys, from one on.
func run(from, n int) []uint64 {
	var keys []uint64
	for i := range n {
		keys = append(keys, uint64(from+i))
	}
	return keys
}

// Helpers: what is asked, and must be answered.

func checks(t *testing.T, p tree.Pages, root int, want api.Errno) {
	t.Helper()
	if e := tree.Check(p, root); e != want {
		t.Errorf("Check(%d) = %d; want %d", root, e, want)
	}
	if list, e := tree.Reach(p, root); e != want || e != api.OK && len(list) != 0 {
		t.Errorf("Reach(%d) = %v, %d; want %d", root, list, e, want)
	}
}

func reaches(t *testing.T, p tree.Pages, root int, want ...int) {
	t.Helper()
	if list, e := tree.Reach(p, root); !slices.Equal(list, want) || e != api.OK {
		t.Errorf("Reach(%d) = %v, %d; want %v", root, list, e, want)
	}
}

func gets(t *testing.T, p tree.Pages, root int, key, want uint64) {
	t.Helper()
	if v, is, e := tree.Get(p, root, key); v != want || !is || e != api.OK {
		t.Errorf("Get(%d, %d) = %d, %t, %d; want %d", root, key, v, is, e, want)
	}
}

func getsNot(t *testing.T, p tree.Pages, root int, key uint64, want api.Errno) {
	t.Helper()
	if v, is, e := tree.Get(p, root, key); v != 0 || is || e != want {
		t.Errorf("Get(%d, %d) = %d, %t, %d; want nothing, %d", root, key, v, is, e, want)
	}
}

func ranges(t *testing.T, p tree.Pages, root int, from, to uint64, want ...api.Pair) {
	t.Helper()
	if list, e := tree.Range(p, root, from, to); !slices.Equal(list, want) || e != api.OK {
		t.Errorf("Range(%d, %d, %d) = %v, %d; want %v", root, from, to, list, e, want)
	}
}

func rangesNot(t *testing.T, p tree.Pages, root int, from, to uint64, want api.Errno) {
	t.Helper()
	if list, e := tree.Range(p, root, from, to); len(list) != 0 || e != want {
		t.Errorf("Range(%d, %d, %d) = %v, %d; want nothing, %d", root, from, to, list, e, want)
	}
}

func puts(t *testing.T, p tree.Pages, root int, key, val uint64) int {
	t.Helper()
	r, e := tree.Put(p, root, key, val)
	if e != api.OK {
		t.Fatalf("Put(%d, %d, %d) = %d, %d", root, key, val, r, e)
	}
	return r
}

func putsNot(t *testing.T, p tree.Pages, root int, key uint64, want api.Errno) {
	t.Helper()
	if r, e := tree.Put(p, root, key, 1); r != 0 || e != want {
		t.Errorf("Put(%d, %d) = %d, %d; want 0, %d", root, key, r, e, want)
	}
}

func drops(t *testing.T, p tree.Pages, root int, key uint64) int {
	t.Helper()
	r, is, e := tree.Drop(p, root, key)
	if !is || e != api.OK {
		t.Fatalf("Drop(%d, %d) = %d, %t, %d", root, key, r, is, e)
	}
	return r
}

// dropsNone fails the test, unless there is nothing to drop.
func dropsNone(t *testing.T, p tree.Pages, root int, key uint64) {
	t.Helper()
	if r, is, e := tree.Drop(p, root, key); r != root || is || e != api.OK {
		t.Errorf("Drop(%d, %d) = %d, %t, %d; want the root, false", root, key, r, is, e)
	}
}

func dropsNot(t *testing.T, p tree.Pages, root int, key uint64, want api.Errno) {
	t.Helper()
	if r, is, e := tree.Drop(p, root, key); r != 0 || is || e != want {
		t.Errorf("Drop(%d, %d) = %d, %t, %d; want 0, false, %d", root, key, r, is, e, want)
	}
}

// holds fails the test, unless a page has this node.
func holds(t *testing.T, p tree.Pages, page int, want api.Leaf) {
	t.Helper()
	if l, e := p.Read(page); !same(l, want) || e != api.OK {
		t.Errorf("%d: %v, %d; want %v", page, l, e, want)
	}
}

// Helpers: trees as the chapter's words have them, made without the package.

// nest is a node with all those below it; the page is 0, if it is one that isn't there yet.
type nest struct {
	page  int
	level int
	pairs []api.Pair // of a leaf
	kids  []nest     // of another one
}

// load answers the nest of a sound tree.
func load(s *tree.Shelf, root int) nest {
	l := s.List[root-1]
	n := nest{page: root, level: l.Level}
	if l.Level == 0 {
		n.pairs = slices.Clone(l.List)
		return n
	}
	for _, p := range l.List {
		n.kids = append(n.kids, load(s, int(p.Val)))
	}
	return n
}

// first answers the lowest key.
func (n nest) first() uint64 {
	if n.level == 0 {
		return n.pairs[0].Key
	}
	return n.kids[0].first()
}

// all answers the pairs, rising.
func (n nest) all() []api.Pair {
	list := slices.Clone(n.pairs)
	for _, k := range n.kids {
		list = append(list, k.all()...)
	}
	return list
}

// pages answers the pages, each ahead of those below it.
func (n nest) pages() []int {
	list := []int{n.page}
	for _, k := range n.kids {
		list = append(list, k.pages()...)
	}
	return list
}

// kidFor answers which kid a key belongs to.
func (n nest) kidFor(key uint64) int {
	at := 0
	for i, k := range n.kids {
		if k.first() <= key {
			at = i
		}
	}
	return at
}

// parts answers a node, or the two in its place if it has 16 pairs.
func (n nest) parts() []nest {
	if len(n.pairs) == 16 {
		return []nest{{pairs: n.pairs[:8]}, {pairs: n.pairs[8:]}}
	}
	if len(n.kids) == 16 {
		return []nest{{level: n.level, kids: n.kids[:8]}, {level: n.level, kids: n.kids[8:]}}
	}
	return []nest{n}
}

// withPair answers what stands in the place of n, if a pair is put there.
func (n nest) withPair(p api.Pair) []nest {
	if n.level == 0 {
		rest := slices.DeleteFunc(slices.Clone(n.pairs), func(q api.Pair) bool { return q.Key == p.Key })
		rest = append(rest, p)
		slices.SortFunc(rest, func(a, b api.Pair) int {
			if a.Key < b.Key {
				return -1
			}
			return 1
		})
		return nest{pairs: rest}.parts()
	}
	i := n.kidFor(p.Key)
	return nest{level: n.level, kids: slices.Concat(n.kids[:i], n.kids[i].withPair(p), n.kids[i+1:])}.parts()
}

// afterPut answers the tree behind a Put.
func (n nest) afterPut(p api.Pair) nest {
	list := n.withPair(p)
	if len(list) == 1 {
		return list[0]
	}
	return nest{level: n.level + 1, kids: list}
}

// without answers what stands in the place of n, if the pair of a key is dropped.
func (n nest) without(key uint64) []nest {
	if n.level == 0 {
		rest := slices.DeleteFunc(slices.Clone(n.pairs), func(q api.Pair) bool { return q.Key == key })
		if len(rest) == 0 {
			return nil
		}
		return []nest{{pairs: rest}}
	}
	i := n.kidFor(key)
	kids := slices.Concat(n.kids[:i], n.kids[i].without(key), n.kids[i+1:])
	if len(kids) == 0 {
		return nil
	}
	return []nest{{level: n.level, kids: kids}}
}

// afterDrop answers the tree behind a Drop; false: it has no pairs.
func (n nest) afterDrop(key uint64) (nest, bool) {
	list := n.without(key)
	if len(list) == 0 {
		return nest{}, false
	}
	root := list[0]
	for root.level > 0 && len(root.kids) == 1 {
		root = root.kids[0]
	}
	return root, true
}

// fresh answers how many nodes aren't there yet.
func (n nest) fresh() int {
	count := 0
	for _, page := range n.pages() {
		if page == 0 {
			count++
		}
	}
	return count
}

// fits fails the test, unless got is want, with the pages that were there where they were, and others beyond them.
func fits(t *testing.T, got, want nest, was int) {
	t.Helper()
	if got.level != want.level || !slices.Equal(got.pairs, want.pairs) || len(got.kids) != len(want.kids) {
		t.Fatalf("got %v; want %v", got, want)
	}
	if want.page != 0 && got.page != want.page || want.page == 0 && got.page <= was {
		t.Fatalf("page %d; want %d, or one beyond %d", got.page, want.page, was)
	}
	for i := range got.kids {
		fits(t, got.kids[i], want.kids[i], was)
	}
}

// keysOf answers so many keys, rising, some of them at the ends.
func keysOf(chance *rand.Rand, n int) []uint64 {
	keys := []uint64{0, top}[chance.Intn(2):][:chance.Intn(2)]
	keys = slices.Clone(keys)
	for len(keys) < n {
		keys = append(keys, chance.Uint64()>>chance.Intn(60))
		slices.Sort(keys)
		keys = slices.Compact(keys)
	}
	return keys[:n]
}

// grown answers a shelf with a sound tree of these keys, of any shape, on any of its pages, and its root.
func grown(chance *rand.Rand, keys []uint64) (*tree.Shelf, int) {
	var nodes []api.Leaf // the Vals of those above the leaves are places of this list
	var row []api.Pair   // what leads to the nodes of a level
	for _, k := range keys {
		row = append(row, api.Pair{Key: k, Val: chance.Uint64() >> chance.Intn(64)})
	}
	for level := 0; level == 0 || len(row) > 1; level++ {
		most := 1 + chance.Intn(15)
		if level > 2 || level == 0 {
			most = 15
		}
		var next []api.Pair
		for len(row) > 0 {
			n := min(len(row), 1+chance.Intn(most))
			if level > 3 {
				n = min(len(row), 15)
			}
			next = append(next, api.Pair{Key: row[0].Key, Val: uint64(len(nodes))})
			nodes = append(nodes, api.Leaf{Level: level, List: slices.Clone(row[:n])})
			row = row[n:]
		}
		row = next
	}
	return scattered(chance, nodes)
}

// scattered answers a shelf on which nodes stand at any pages, among others; the last one is the root.
func scattered(chance *rand.Rand, nodes []api.Leaf) (*tree.Shelf, int) {
	pages := chance.Perm(len(nodes) + chance.Intn(9))
	s := &tree.Shelf{List: make([]api.Leaf, len(pages)), Room: 511}
	for i, l := range nodes {
		for j := range l.List {
			if l.Level > 0 {
				l.List[j].Val = uint64(pages[l.List[j].Val] + 1)
			}
		}
		s.List[pages[i]] = l
	}
	return s, pages[len(nodes)-1] + 1
}

// anyTree answers a shelf with a sound tree, its root, and its keys.
func anyTree(chance *rand.Rand) (*tree.Shelf, int, []uint64) {
	keys := keysOf(chance, 1+chance.Intn([]int{3, 20, 60, 250}[chance.Intn(4)]))
	s, root := grown(chance, keys)
	return s, root, keys
}

// anyKey answers one of these keys, or one near, or any other one.
func anyKey(chance *rand.Rand, keys []uint64) uint64 {
	switch chance.Intn(4) {
	case 0:
		return chance.Uint64() >> chance.Intn(64)
	case 1:
		return keys[chance.Intn(len(keys))] + uint64(chance.Intn(3)) - 1
	}
	return keys[chance.Intn(len(keys))]
}

// tall answers a shelf with a tree of eight levels, of which each node on the way to the leaf of the keys from 0 to 14 has 15 pairs, and its root.
func tall() (*tree.Shelf, int) {
	s := shelf()
	add := func(l api.Leaf) uint64 {
		s.List = append(s.List, l)
		return uint64(len(s.List))
	}
	// chain answers a page of a level, with a single key below.
	chain := func(level int, key uint64) uint64 {
		page := add(low(key))
		for i := 1; i <= level; i++ {
			page = add(up(i, key, page))
		}
		return page
	}
	page := add(low(run(0, 15)...))
	for level := 1; level <= 7; level++ {
		l := up(level, 0, page)
		for i := range 14 {
			key := uint64(level*1000 + 10*i)
			l.List = append(l.List, api.Pair{Key: key, Val: chain(level-1, key)})
		}
		page = add(l)
	}
	return s, int(page)
}

// Helpers: pages of other kinds.

// faulty is a shelf of which some pages, or all uses from one on, answer an error.
type faulty struct {
	*tree.Shelf
	bad   map[int]api.Errno
	after int // so many uses are well; all are, if it is below 0
	fault api.Errno
}

func (f *faulty) use() api.Errno {
	if f.after == 0 {
		return f.fault
	}
	f.after--
	return api.OK
}

func (f *faulty) Read(page int) (api.Leaf, api.Errno) {
	if e := f.use(); e != api.OK {
		return low(1, 2, 3), e
	}
	if e := f.bad[page]; e != api.OK {
		return low(1, 2, 3), e
	}
	return f.Shelf.Read(page)
}

func (f *faulty) Add(l api.Leaf) (int, api.Errno) {
	if e := f.use(); e != api.OK {
		return 77, e
	}
	return f.Shelf.Add(l)
}

// sharing is pages that hand out their own memory, and keep what they are handed.
type sharing struct{ list []api.Leaf }

func (s *sharing) Read(page int) (api.Leaf, api.Errno) {
	if page < 1 || page > len(s.list) {
		return api.Leaf{}, api.ErrRange
	}
	return s.list[page-1], api.OK
}

func (s *sharing) Add(l api.Leaf) (int, api.Errno) {
	s.list = append(s.list, l)
	return len(s.list), api.OK
}

// own is the caller's own kind of pages, of which a nil panics.
type own struct{ shelf tree.Shelf }

func (o *own) Read(page int) (api.Leaf, api.Errno) { return o.shelf.Read(page) }
func (o *own) Add(l api.Leaf) (int, api.Errno)     { return o.shelf.Add(l) }

// P8.1: shelves.

func TestShelfRead(t *testing.T) {
	odd := api.Leaf{Level: -9, List: []api.Pair{{Key: 5, Val: 1}, {Key: 5, Val: 2}}}
	s := &tree.Shelf{List: []api.Leaf{low(1), odd, {}, {Level: 99, List: make([]api.Pair, 40)}}}
	for i, want := range s.List {
		holds(t, s, i+1, want)
	}
	for _, page := range []int{0, 5, -1, 6, 511, math.MaxInt, math.MinInt, 1<<32 + 1} {
		if l, e := s.Read(page); !same(l, api.Leaf{}) || e != api.ErrRange {
			t.Error(page, l, e)
		}
	}
	if l, e := new(tree.Shelf).Read(1); !same(l, api.Leaf{}) || e != api.ErrRange {
		t.Error(l, e)
	}
}

func TestShelfAdd(t *testing.T) {
	s := &tree.Shelf{Room: 3}
	odd := api.Leaf{Level: -9, List: []api.Pair{{Key: 5, Val: 1}, {Key: 5, Val: 2}}}
	for i, l := range []api.Leaf{low(4), odd, {}} {
		if page, e := s.Add(l); page != i+1 || e != api.OK {
			t.Error(i, page, e)
		}
		holds(t, s, i+1, l)
	}
	was := copied(s.List)
	if page, e := s.Add(low(9)); page != 0 || e != api.ErrPages || len(s.List) != 3 {
		t.Error(page, e, s.List)
	}
	unchanged(t, s, was)
	s.Room = 4
	if page, e := s.Add(low(9)); page != 4 || e != api.OK {
		t.Error(page, e)
	}
	unchanged(t, s, was)
	holds(t, s, 4, low(9))
}

func TestShelfRoom(t *testing.T) {
	for _, c := range []struct{ has, room, want int }{
		{0, 0, 0}, {0, -1, 0}, {0, math.MinInt, 0}, {0, 1, 1}, {1, 1, 0}, {2, 1, 0}, {9, 10, 10}, {9, 9, 0}, {9, 8, 0},
		{510, 511, 511}, {511, 511, 0}, {510, math.MaxInt, 511}, {511, math.MaxInt, 0}, {511, 512, 0}, {600, 1000, 0}, {510, 510, 0},
	} {
		s := &tree.Shelf{List: make([]api.Leaf, c.has), Room: c.room}
		want := api.OK
		if c.want == 0 {
			want = api.ErrPages
		}
		if page, e := s.Add(low(1)); page != c.want || e != want || len(s.List) != max(c.has, c.want) {
			t.Error(c, page, e, len(s.List))
		}
	}
}

func TestShelfOfNone(t *testing.T) {
	var s *tree.Shelf
	for _, page := range []int{0, 1, -1} {
		if l, e := s.Read(page); !same(l, api.Leaf{}) || e != api.ErrNil {
			t.Error(l, e)
		}
	}
	if page, e := s.Add(low(1)); page != 0 || e != api.ErrNil {
		t.Error(page, e)
	}
}

// A shelf shares no memory with what it is handed and what it answers.
func TestShelfMemory(t *testing.T) {
	room := append(low(1, 2, 3).List, low(4, 5, 6).List...)
	list := []api.Leaf{low(1), low(2), low(3)}
	s := &tree.Shelf{List: list[:1], Room: 9}
	two := *s
	s.Add(api.Leaf{List: room[:3]})
	two.Add(low(8))
	if !same(list[1], low(2)) || !same(list[2], low(3)) {
		t.Error(list)
	}
	holds(t, s, 2, low(1, 2, 3))
	holds(t, &two, 2, low(8))
	room[1].Val = 99
	holds(t, s, 2, low(1, 2, 3))
	l, _ := s.Read(2)
	l.List[0].Val = 99
	_ = append(l.List, api.Pair{})
	holds(t, s, 2, low(1, 2, 3))
	if !slices.Equal(room[3:], low(4, 5, 6).List) {
		t.Error(room)
	}
}

// P8.2: trees that are sound.

func TestCheckOfSoundTrees(t *testing.T) {
	checks(t, shelf(), 0, api.OK)
	reaches(t, shelf(), 0)
	reaches(t, shelf(low(0, top)), 1, 1)
	reaches(t, shelf(low(run(7, 15)...)), 1, 1)
	reaches(t, shelf(api.Leaf{List: []api.Pair{{Key: 1, Val: 1}, {Key: 2, Val: 1}, {Key: 3, Val: top}}}), 1, 1)
	reaches(t, shelf(low(1, 2), low(5, 9), up(1, 1, 1, 5, 2)), 3, 3, 1, 2)
	reaches(t, shelf(low(5, 9), low(), up(1, 1, 4, 5, 1), low(1, 4)), 3, 3, 4, 1)
	// nodes of one pair may stand anywhere but at the root
	reaches(t, shelf(low(1), up(1, 1, 1), low(top), up(1, top, 3), up(2, 1, 2, top, 4)), 5, 5, 2, 1, 4, 3)
	// what isn't of the tree plays no part
	reaches(t, shelf(api.Leaf{Level: 77}, low(3), low(3)), 2, 2)
	s, root := tall()
	checks(t, s, root, api.OK)
	reaches(t, s, root, load(s, root).pages()...)
	// a root may stand beyond the pages to which a node can lead
	long := shelf(make([]api.Leaf, 600)...)
	long.List[0], long.List[1], long.List[599] = low(1), low(2), up(1, 1, 1, 2, 2)
	reaches(t, long, 600, 600, 1, 2)
}

func TestCheckOfTreesThatAreNot(t *testing.T) {
	many := low(run(1, 16)...)
	for i, list := range [][]api.Leaf{
		// nodes that can't be, and those without pairs
		{low()}, {many}, {low(2, 1)}, {low(1, 1)}, {{Level: -1, List: low(1).List}}, {{Level: 8, List: up(0, 1, 1, 2, 2).List}}, {up(1)},
		{low(1), low(2), up(1, 1, 1, 1, 2)}, {low(1), low(2), up(1, 2, 2, 1, 1)}, {low(1), low(2), up(1, 1, 0, 2, 2)}, {low(1), low(2), up(1, 1, 512, 2, 2)}, {low(1), low(2), up(1, 1, 1<<32+1, 2, 2)},
		{low(1), low(), up(1, 1, 1, 2, 2)}, {many, low(20), up(1, 1, 1, 20, 2)}, {low(1), low(2, 4, 3), up(1, 1, 1, 2, 2)},
		// pages that aren't there
		{low(1), low(2), up(1, 1, 1, 2, 9)}, {low(1), low(2), up(1, 1, 4, 2, 2)},
		// nodes that are met twice
		{low(1), low(2), up(1, 1, 1, 2, 1)}, {low(1), low(2), up(1, 1, 1, 2, 2, 3, 2)},
		{low(1), up(1, 1, 1), up(1, 2, 1), up(2, 1, 2, 2, 3)}, {low(1), up(1, 1, 1), up(2, 1, 2, 2, 2)}, {low(1), low(2), up(1, 1, 3, 2, 3)},
		// levels
		{low(1), low(2), up(2, 1, 1, 2, 2)}, {low(1), low(2), up(7, 1, 1, 2, 2)}, {low(1), low(2), up(1, 1, 1, 2, 2), up(1, 4, 5, 6, 6), low(4), low(6), up(1, 1, 3, 4, 4)},
		{low(1), low(2), up(1, 2, 2), up(2, 1, 1, 2, 3)}, {low(1), low(2), up(1, 2, 2), up(1, 1, 1, 2, 3)}, {low(1), up(1, 1, 1), low(2), up(2, 1, 2, 2, 3)},
		// first keys
		{low(2), low(5), up(1, 1, 1, 5, 2)}, {low(1), low(6), up(1, 2, 1, 6, 2)}, {low(1), low(5), up(1, 1, 1, 4, 2)}, {low(1), low(5), up(1, 1, 1, 6, 2)},
		{low(2), up(1, 1, 1), low(5), up(1, 5, 3), up(2, 1, 2, 5, 4)}, {low(1), up(1, 1, 1), low(5), up(1, 5, 3), up(2, 1, 2, 4, 4)}, {low(1), low(4), up(1, 2, 1, 4, 2), low(5), up(1, 5, 4), up(2, 1, 3, 5, 5)},
		// keys that aren't below the next one
		{low(1, 5), low(5), up(1, 1, 1, 5, 2)}, {low(1, 6), low(5), up(1, 1, 1, 5, 2)}, {low(1), low(2, top), low(top), up(1, 1, 1, 2, 2, top, 3)},
		{low(1, 5), up(1, 1, 1), low(5), up(1, 5, 3), up(2, 1, 2, 5, 4)}, {low(1), low(3, 8), up(1, 1, 1, 3, 2), low(5), up(1, 5, 4), up(2, 1, 3, 5, 5)}, {low(1), low(5), up(1, 1, 1, 5, 2), low(5), up(1, 5, 4), up(2, 1, 3, 5, 5)},
		{low(1, 3), low(3), up(1, 1, 1, 3, 2), low(5), up(1, 5, 4), up(2, 1, 3, 5, 5)},
		// roots of one pair
		{low(1), up(1, 1, 1)}, {low(1), low(2), up(1, 1, 1, 2, 2), up(2, 1, 3)},
	} {
		if e := tree.Check(shelf(list...), len(list)); e != api.ErrForm {
			t.Error(i, "Check", e)
		}
		if pages, e := tree.Reach(shelf(list...), len(list)); len(pages) != 0 || e != api.ErrForm {
			t.Error(i, "Reach", pages, e)
		}
	}
	for _, root := range []int{-1, 2, 3, 512, math.MinInt, math.MaxInt} {
		checks(t, shelf(low(1)), root, api.ErrForm)
	}
}

// isSound tells by the chapter's words, one behind the other, whether a tree is sound.
func isSound(s *tree.Shelf, root int) bool {
	met := map[int]int{}
	var keysBelow func(page, levels int) ([]uint64, bool)
	keysBelow = func(page, levels int) ([]uint64, bool) {
		met[page]++
		if page < 1 || page > len(s.List) || met[page] > 1 || !leaf.Good(s.List[page-1]) || len(s.List[page-1].List) == 0 || levels < 0 {
			return nil, false
		}
		l := s.List[page-1]
		var keys []uint64
		for i, p := range l.List {
			keys = append(keys, p.Key)
			if l.Level == 0 {
				continue
			}
			below, ok := keysBelow(int(p.Val), levels-1)
			if !ok || s.List[p.Val-1].Level != l.Level-1 || s.List[p.Val-1].List[0].Key != p.Key {
				return nil, false
			}
			if i+1 < len(l.List) && slices.Max(below) >= l.List[i+1].Key {
				return nil, false
			}
			keys = append(keys, below...)
		}
		return keys, true
	}
	if root == 0 {
		return true
	}
	_, ok := keysBelow(root, 8)
	return ok && (s.List[root-1].Level == 0 || len(s.List[root-1].List) > 1)
}

// Trees in which one thing was turned: those that are still sound are told from those that aren't.
func TestCheckOfTurnedTrees(t *testing.T) {
	chance := rand.New(rand.NewSource(8))
	count := [2]int{}
	for range 6000 {
		s, root, _ := anyTree(chance)
		if !isSound(s, root) {
			t.Fatal("the tree isn't sound")
		}
		reaches(t, s, root, load(s, root).pages()...)
		pages := load(s, root).pages()
		l := &s.List[pages[chance.Intn(len(pages))]-1]
		i := chance.Intn(len(l.List))
		switch chance.Intn(6) {
		case 0:
			l.Level += chance.Intn(3) - 1
		case 1:
			l.List[i].Key += uint64(chance.Intn(5)) - 2
		case 2:
			l.List[i].Val += uint64(chance.Intn(5)) - 2
		case 3:
			l.List = slices.Delete(l.List, i, i+1)
		case 4:
			l.List[i] = l.List[chance.Intn(len(l.List))]
		case 5:
			l.List[i].Val = uint64(pages[chance.Intn(len(pages))])
		}
		want := api.ErrForm
		if isSound(s, root) {
			want = api.OK
		}
		count[min(1, want)]++
		checks(t, s, root, want)
	}
	if count[0] < 500 || count[1] < 500 {
		t.Error(count)
	}
}

func TestCheckWithFaults(t *testing.T) {
	list := []api.Leaf{low(1, 2), low(5, 9), up(1, 1, 1, 5, 2)}
	for page := range 3 {
		for _, e := range []api.Errno{api.ErrDown, api.ErrMiss, api.ErrState, api.ErrArg, -4} {
			f := &faulty{Shelf: shelf(list...), bad: map[int]api.Errno{page + 1: e}, after: -1}
			checks(t, f, 3, e)
		}
		for _, e := range []api.Errno{api.ErrForm, api.ErrRange} {
			f := &faulty{Shelf: shelf(list...), bad: map[int]api.Errno{page + 1: e}, after: -1}
			checks(t, f, 3, api.ErrForm)
		}
	}
	// the first one is told
	f := &faulty{Shelf: shelf(list...), bad: map[int]api.Errno{1: api.ErrDown, 2: api.ErrMiss}, after: -1}
	checks(t, f, 3, api.ErrDown)
	checks(t, f, 0, api.OK)
	// what is seen not to be sound isn't, whatever the rest is
	for _, l := range [][]api.Leaf{
		{low(1), low(6), up(1, 1, 1, 5, 2)},
		{low(1), low(5), up(1, 1, 1, 5, 1)},
		{low(1), low(5), up(1, 1, 1, 5, 7)},
		{low(1), low(5), up(1, 1, 1)},
		{low(1), low(5), up(2, 1, 1, 5, 2)},
	} {
		f := &faulty{Shelf: shelf(l...), bad: map[int]api.Errno{1: api.ErrDown}, after: -1}
		checks(t, f, 3, api.ErrForm)
	}
}

// P8.3: Get and Range.

func TestGet(t *testing.T) {
	s := shelf(low(1, 2), low(5, 9), up(1, 1, 1, 5, 2), api.Leaf{List: []api.Pair{{Key: 0, Val: top}, {Key: top, Val: 0}}})
	for key, want := range []uint64{0, 2, 4, 0, 0, 10, 0, 0, 0, 18, 0} {
		if want > 0 {
			gets(t, s, 3, uint64(key), want)
		} else {
			getsNot(t, s, 3, uint64(key), api.OK)
		}
	}
	getsNot(t, s, 3, top, api.OK)
	gets(t, s, 4, 0, top)
	gets(t, s, 4, top, 0)
	getsNot(t, s, 4, 1, api.OK)
	getsNot(t, s, 4, top-1, api.OK)
	getsNot(t, s, 0, 0, api.OK)
	getsNot(t, s, 0, top, api.OK)
}

func TestRange(t *testing.T) {
	s := shelf(low(1, 2), low(5, 9), up(1, 1, 1, 5, 2), low(0, top))
	all := low(1, 2, 5, 9).List
	for from := range uint64(11) {
		for to := range uint64(11) {
			want := slices.DeleteFunc(slices.Clone(all), func(p api.Pair) bool { return p.Key < from || p.Key > to })
			ranges(t, s, 3, from, to, want...)
		}
	}
	ranges(t, s, 3, 0, top, all...)
	ranges(t, s, 3, top, 0)
	ranges(t, s, 3, 10, top)
	ranges(t, s, 4, 0, top, low(0, top).List...)
	ranges(t, s, 4, top, top, low(top).List...)
	ranges(t, s, 4, 0, 0, low(0).List...)
	ranges(t, s, 4, 1, top-1)
	ranges(t, s, 4, top, 0)
	ranges(t, s, 0, 0, top)
}

func TestGetAndRangeOfAnyTree(t *testing.T) {
	chance := rand.New(rand.NewSource(81))
	for range 300 {
		s, root, keys := anyTree(chance)
		was := copied(s.List)
		all := load(s, root).all()
		ranges(t, s, root, 0, top, all...)
		for range 30 {
			a, b := anyKey(chance, keys), anyKey(chance, keys)
			ranges(t, s, root, a, b, slices.DeleteFunc(slices.Clone(all), func(p api.Pair) bool { return p.Key < a || p.Key > b })...)
			if i := slices.IndexFunc(all, func(p api.Pair) bool { return p.Key == a }); i >= 0 {
				gets(t, s, root, a, all[i].Val)
			} else {
				getsNot(t, s, root, a, api.OK)
			}
		}
		if len(s.List) != len(was) {
			t.Fatal("there are more nodes")
		}
		unchanged(t, s, was)
	}
}

// P8.3: Put.

func TestPutIntoTheTreeWithoutPairs(t *testing.T) {
	s := shelf(low(9))
	if r := puts(t, s, 0, top, 7); r != 2 || len(s.List) != 2 {
		t.Error(r, s.List)
	}
	holds(t, s, 2, api.Leaf{List: []api.Pair{{Key: top, Val: 7}}})
	if r := puts(t, s, 0, 0, 0); r != 3 || len(s.List) != 3 {
		t.Error(r, s.List)
	}
	holds(t, s, 3, api.Leaf{List: []api.Pair{{}}})
}

// The chapter's example, with the keys in several orders.
func TestPutOfSixteenKeys(t *testing.T) {
	for step := 1; step < 16; step += 2 {
		s, root := shelf(), 0
		for i := range 16 {
			root = puts(t, s, root, uint64(i*step%16), uint64(i*step%16*2))
			if want := i + 1 + i/15*2; len(s.List) != want {
				t.Error(step, i, len(s.List), want)
			}
		}
		holds(t, s, root, up(1, 0, 16, 8, 17))
		holds(t, s, 16, low(run(0, 8)...))
		holds(t, s, 17, low(run(8, 8)...))
		if root != 18 {
			t.Error(root)
		}
	}
}

func TestPutInThePlaceOfOne(t *testing.T) {
	s := shelf(low(run(1, 15)...), low(run(21, 15)...), up(1, 1, 1, 21, 2))
	root := puts(t, s, 3, 25, 99)
	if len(s.List) != 5 || root != 5 {
		t.Error(root, s.List)
	}
	holds(t, s, 5, up(1, 1, 1, 21, 4))
	gets(t, s, 5, 25, 99)
	gets(t, s, 3, 25, 50)
	// the same once more: nodes are new all the same
	if root := puts(t, s, 5, 25, 99); root != 7 || len(s.List) != 7 {
		t.Error(root, len(s.List))
	}
	holds(t, s, 7, up(1, 1, 1, 21, 6))
}

// A key below all others belongs to the first leaf, and is the first one of all nodes above it.
func TestPutBelowAllKeys(t *testing.T) {
	s := shelf(low(5), up(1, 5, 1), low(9), up(1, 9, 3), up(2, 5, 2, 9, 4))
	root := puts(t, s, 5, 2, 4)
	if root != 8 || len(s.List) != 8 {
		t.Error(root, s.List)
	}
	holds(t, s, 6, low(2, 5))
	holds(t, s, 7, up(1, 2, 6))
	holds(t, s, 8, up(2, 2, 7, 9, 4))
	// a key between two leaves belongs to the one ahead of it
	root = puts(t, s, 5, 8, 16)
	holds(t, s, root-2, low(5, 8))
	holds(t, s, root, up(2, 5, uint64(root-1), 9, 4))
}

func TestPutThatPartsNodesUpToTheRoot(t *testing.T) {
	s := shelf()
	root := up(1)
	for i := range 15 {
		s.List = append(s.List, low(run(100*i, 15)...))
		root.List = append(root.List, api.Pair{Key: uint64(100 * i), Val: uint64(i + 1)})
	}
	s.List = append(s.List, root)
	r := puts(t, s, 16, 350, 700)
	if r != 21 || len(s.List) != 21 {
		t.Fatal(r, len(s.List))
	}
	holds(t, s, 17, low(run(300, 8)...))
	holds(t, s, 18, low(append(run(308, 7), 350)...))
	holds(t, s, 19, up(1, 0, 1, 100, 2, 200, 3, 300, 17, 308, 18, 400, 5, 500, 6, 600, 7))
	holds(t, s, 20, up(1, 700, 8, 800, 9, 900, 10, 1000, 11, 1100, 12, 1200, 13, 1300, 14, 1400, 15))
	holds(t, s, 21, up(2, 0, 19, 700, 20))
}

func TestPutIntoATreeOfAllLevels(t *testing.T) {
	s, root := tall()
	checks(t, s, root, api.OK)
	was := copied(s.List)
	for _, key := range []uint64{15, 999} {
		for _, room := range []int{511, 0} {
			s.Room = room
			putsNot(t, s, root, key, api.ErrFull)
			if len(s.List) != len(was) {
				t.Fatal("there are more nodes")
			}
		}
	}
	s.Room = 511
	// in the place of one it has no more pairs
	r := puts(t, s, root, 14, 1)
	if len(s.List) != len(was)+8 {
		t.Error(len(s.List))
	}
	checks(t, s, r, api.OK)
	// elsewhere a node isn't parted
	r = puts(t, s, root, 7001, 1)
	if len(s.List) != len(was)+16 {
		t.Error(len(s.List))
	}
	checks(t, s, r, api.OK)
	// where only a node at the top isn't full, all below it are parted
	s.List = copied(was)
	l := &s.List[root-1]
	l.List = l.List[:14]
	r = puts(t, s, root, 15, 30)
	if len(s.List) != len(was)+15 || s.List[r-1].Level != 7 || len(s.List[r-1].List) != 15 {
		t.Error(len(s.List), s.List[r-1])
	}
	checks(t, s, r, api.OK)
	// a tree of seven levels may grow by one
	s.List = copied(was)
	seven := int(s.List[root-1].List[0].Val)
	r = puts(t, s, seven, 15, 30)
	if len(s.List) != len(was)+15 || s.List[r-1].Level != 7 || len(s.List[r-1].List) != 2 {
		t.Error(len(s.List), s.List[r-1])
	}
	checks(t, s, r, api.OK)
}

// P8.3: Drop.

func TestDropOfWhatIsNot(t *testing.T) {
	s := shelf(low(1, 2), low(5, 9), up(1, 1, 1, 5, 2))
	for _, key := range []uint64{0, 3, 4, 6, 8, 10, top} {
		dropsNone(t, s, 3, key)
		dropsNone(t, s, 0, key)
		dropsNone(t, s, 1, key+10)
	}
	if len(s.List) != 3 {
		t.Error(s.List)
	}
}

func TestDrop(t *testing.T) {
	s := shelf(low(1, 2), low(5, 9), up(1, 1, 1, 5, 2))
	if r := drops(t, s, 3, 9); r != 5 || len(s.List) != 5 {
		t.Error(r, s.List)
	}
	holds(t, s, 4, low(5))
	holds(t, s, 5, up(1, 1, 1, 5, 4))
	// the first key of a leaf
	if r := drops(t, s, 5, 1); r != 7 || len(s.List) != 7 {
		t.Error(r, s.List)
	}
	holds(t, s, 6, low(2))
	holds(t, s, 7, up(1, 2, 6, 5, 4))
	// a leaf without pairs is left out, and so is the root then
	if r := drops(t, s, 7, 2); r != 4 || len(s.List) != 7 {
		t.Error(r, s.List)
	}
	if r := drops(t, s, 7, 5); r != 6 || len(s.List) != 7 {
		t.Error(r, s.List)
	}
	// the last one
	if r := drops(t, s, 6, 2); r != 0 || len(s.List) != 7 {
		t.Error(r, s.List)
	}
}

// Nodes without pairs are left out on all levels; roots of one pair, one below the other.
func TestDropLeavesNodesOut(t *testing.T) {
	list := []api.Leaf{low(1), up(1, 1, 1), low(5, 6), up(1, 5, 3), up(2, 1, 2, 5, 4)}
	s := shelf(copied(list)...)
	if r := drops(t, s, 5, 1); r != 3 || len(s.List) != 5 {
		t.Error(r, s.List)
	}
	// a root of two pairs stays one
	s = shelf(low(1), up(1, 1, 1), low(5), low(8), up(1, 5, 3, 8, 4), up(2, 1, 2, 5, 5))
	if r := drops(t, s, 6, 1); r != 5 || len(s.List) != 6 {
		t.Error(r, s.List)
	}
	// a node below the root may have one pair
	if r := drops(t, s, 6, 5); r != 8 || len(s.List) != 8 {
		t.Error(r, s.List)
	}
	holds(t, s, 7, up(1, 8, 4))
	holds(t, s, 8, up(2, 1, 2, 8, 7))
	// a root of three pairs has two then
	s = shelf(low(1), low(2), low(3), up(1, 1, 1, 2, 2, 3, 3))
	if r := drops(t, s, 4, 1); r != 5 || len(s.List) != 5 {
		t.Error(r, s.List)
	}
	holds(t, s, 5, up(1, 2, 2, 3, 3))
	// a tree of all levels, down to a leaf
	s = shelf(low(1), low(2))
	for level := 1; level < 7; level++ {
		s.List = append(s.List, up(level, 1, uint64(2*level-1)), up(level, 2, uint64(2*level)))
	}
	s.List = append(s.List, up(7, 1, 13, 2, 14))
	checks(t, s, 15, api.OK)
	if r := drops(t, s, 15, 1); r != 2 || len(s.List) != 15 {
		t.Error(r, len(s.List))
	}
	if r := drops(t, s, 15, 2); r != 1 || len(s.List) != 15 {
		t.Error(r, len(s.List))
	}
}

// Puts and Drops of any key, of any sound tree: all nodes are as the words have them.
func TestPutAndDropOfAnyTree(t *testing.T) {
	chance := rand.New(rand.NewSource(83))
	for range 1500 {
		s, root, keys := anyTree(chance)
		for range 12 {
			was, n := copied(s.List), load(s, root)
			key, val := anyKey(chance, keys), chance.Uint64()
			if chance.Intn(2) == 0 {
				r, e := tree.Put(s, root, key, val)
				if e == api.ErrPages && len(s.List) == 511 {
					break
				}
				want := n.afterPut(api.Pair{Key: key, Val: val})
				if e != api.OK || len(s.List) != len(was)+want.fresh() {
					t.Fatal(r, e, len(s.List), len(was), want.fresh())
				}
				fits(t, load(s, r), want, len(was))
				root = r
			} else {
				r, is, e := tree.Drop(s, root, key)
				if e == api.ErrPages && len(s.List) == 511 {
					break
				}
				if !slices.ContainsFunc(n.all(), func(p api.Pair) bool { return p.Key == key }) {
					if r != root || is || e != api.OK || len(s.List) != len(was) {
						t.Fatal(r, is, e)
					}
					continue
				}
				if want, some := n.afterDrop(key); !some {
					if r != 0 || !is || e != api.OK || len(s.List) != len(was) {
						t.Fatal(r, is, e)
					}
					break
				} else if !is || e != api.OK || len(s.List) != len(was)+want.fresh() {
					t.Fatal(r, is, e, len(s.List), len(was), want.fresh())
				} else {
					fits(t, load(s, r), want, len(was))
				}
				root = r
			}
			unchanged(t, s, was)
			checks(t, s, root, api.OK)
		}
	}
}

// Rows of calls against a map, from no tree on; pages that aren't reached any more are given back now and then.
func TestRowsOfPutsAndDrops(t *testing.T) {
	for seed := range 20 {
		chance := rand.New(rand.NewSource(int64(seed)))
		s, root := shelf(), 0
		want := map[uint64]uint64{}
		for range 400 {
			key, val := uint64(chance.Intn(120)), chance.Uint64()
			if len(s.List) > 480 {
				list, _ := tree.Range(s, root, 0, top)
				s = shelf()
				root, _ = tree.Build(s, list)
			}
			if chance.Intn(5) < 2+seed%2 {
				root = puts(t, s, root, key, val)
				want[key] = val
			} else if _, is := want[key]; is {
				root = drops(t, s, root, key)
				delete(want, key)
			} else {
				dropsNone(t, s, root, key)
			}
			checks(t, s, root, api.OK)
			if len(want) == 0 && root != 0 {
				t.Fatal(root)
			}
		}
		list, e := tree.Range(s, root, 0, top)
		if e != api.OK || len(list) != len(want) || !slices.IsSortedFunc(list, func(a, b api.Pair) int { return int(a.Key) - int(b.Key) }) {
			t.Fatal(list, e)
		}
		for _, p := range list {
			if v, is := want[p.Key]; !is || v != p.Val {
				t.Error(p, v, is)
			}
			gets(t, s, root, p.Key, p.Val)
		}
	}
}

// P8.3: the pages' errors.

// calls are all calls of a tree, with these keys; each answers its error, and whether it answered something beside it.
func calls(keys ...uint64) map[string]func(p tree.Pages, root int) (api.Errno, bool) {
	list := map[string]func(p tree.Pages, root int) (api.Errno, bool){
		"Range": func(p tree.Pages, root int) (api.Errno, bool) {
			l, e := tree.Range(p, root, 0, top)
			return e, len(l) > 0
		},
		"Reach": func(p tree.Pages, root int) (api.Errno, bool) {
			l, e := tree.Reach(p, root)
			return e, len(l) > 0
		},
		"Check": func(p tree.Pages, root int) (api.Errno, bool) { return tree.Check(p, root), false },
	}
	for _, key := range keys {
		list[fmt.Sprint("Get ", key)] = func(p tree.Pages, root int) (api.Errno, bool) {
			v, is, e := tree.Get(p, root, key)
			return e, v != 0 || is
		}
		list[fmt.Sprint("Put ", key)] = func(p tree.Pages, root int) (api.Errno, bool) {
			r, e := tree.Put(p, root, key, 1)
			return e, r != 0
		}
		list[fmt.Sprint("Drop ", key)] = func(p tree.Pages, root int) (api.Errno, bool) {
			r, is, e := tree.Drop(p, root, key)
			return e, r != 0 || is
		}
	}
	return list
}

func TestFaultsAtEachUse(t *testing.T) {
	chance := rand.New(rand.NewSource(84))
	for range 60 {
		s, root, keys := anyTree(chance)
		was := copied(s.List)
		for name, call := range calls(keys[0], keys[len(keys)/2], keys[len(keys)-1], anyKey(chance, keys)) {
			for after := 0; ; after++ {
				f := &faulty{Shelf: shelf(copied(was)...), after: after, fault: api.ErrDown}
				e, some := call(f, root)
				unchanged(t, f.Shelf, was)
				if e == api.OK {
					if after < len(load(s, root).path(keys[0])) {
						t.Fatal(name, after)
					}
					break
				}
				if e != api.ErrDown || some {
					t.Fatal(name, after, e, some)
				}
			}
		}
	}
}

// path answers the nodes from the root to the leaf of a key.
func (n nest) path(key uint64) []nest {
	if n.level == 0 {
		return []nest{n}
	}
	return append([]nest{n}, n.kids[n.kidFor(key)].path(key)...)
}

// A shelf with too little room: ErrPages, and just enough.
func TestRoomForAPutAndADrop(t *testing.T) {
	chance := rand.New(rand.NewSource(85))
	for range 300 {
		s, root, keys := anyTree(chance)
		was := copied(s.List)
		key := anyKey(chance, keys)
		need := load(s, root).afterPut(api.Pair{Key: key}).fresh()
		for room := range need + 1 {
			s := &tree.Shelf{List: copied(was), Room: len(was) + room}
			if room < need {
				putsNot(t, s, root, key, api.ErrPages)
			} else {
				puts(t, s, root, key, 1)
			}
			unchanged(t, s, was)
		}
		key = keys[chance.Intn(len(keys))]
		need = 0
		if want, some := load(s, root).afterDrop(key); some {
			need = want.fresh()
		}
		for room := range need + 1 {
			s := &tree.Shelf{List: copied(was), Room: len(was) + room}
			if room < need {
				dropsNot(t, s, root, key, api.ErrPages)
			} else {
				drops(t, s, root, key)
			}
			unchanged(t, s, was)
		}
	}
}

// Pages that aren't there: where none are used, all is as ever.
func TestNoPages(t *testing.T) {
	for _, p := range []tree.Pages{nil, (*tree.Shelf)(nil), (*store.Store)(nil), (*own)(nil)} {
		for name, call := range calls(1) {
			if e, some := call(p, 1); e != api.ErrNil || some {
				t.Error(name, e, some)
			}
		}
		checks(t, p, 0, api.OK)
		reaches(t, p, 0)
		getsNot(t, p, 0, 1, api.OK)
		ranges(t, p, 0, 0, top)
		dropsNone(t, p, 0, 1)
		putsNot(t, p, 0, 1, api.ErrNil)
		for _, c := range []struct {
			list []api.Pair
			want api.Errno
		}{{nil, api.OK}, {low(1).List, api.ErrNil}, {low(2, 1).List, api.ErrArg}} {
			if r, e := tree.Build(p, c.list); r != 0 || e != c.want {
				t.Error(c, r, e)
			}
		}
	}
}

// P8.4: what was stays as it was.

func TestTreesStay(t *testing.T) {
	chance := rand.New(rand.NewSource(86))
	for range 40 {
		s, root := shelf(), 0
		roots := map[int][]api.Pair{0: nil}
		for len(s.List) < 490 {
			list := roots[root]
			key := uint64(chance.Intn(60))
			list = slices.DeleteFunc(slices.Clone(list), func(p api.Pair) bool { return p.Key == key })
			if chance.Intn(3) > 0 {
				root = puts(t, s, root, key, key+9)
				i, _ := leaf.Find(api.Leaf{List: list}, key)
				list = slices.Insert(list, i, api.Pair{Key: key, Val: key + 9})
			} else if len(list) < len(roots[root]) {
				root = drops(t, s, root, key)
			} else {
				dropsNone(t, s, root, key)
			}
			if was, is := roots[root]; is && !slices.Equal(was, list) {
				t.Fatal(was, list)
			}
			roots[root] = list
			// changes may begin at any tree that there is
			if chance.Intn(9) == 0 {
				root = slices.Collect(keysOfMap(roots))[chance.Intn(len(roots))]
			}
		}
		for root, list := range roots {
			checks(t, s, root, api.OK)
			ranges(t, s, root, 0, top, list...)
		}
	}
}

// keysOfMap goes through the roots, rising.
func keysOfMap(roots map[int][]api.Pair) func(yield func(int) bool) {
	return func(yield func(int) bool) {
		var list []int
		for r := range roots {
			list = append(list, r)
		}
		slices.Sort(list)
		for _, r := range list {
			if !yield(r) {
				return
			}
		}
	}
}

// Pages that hand out their own memory, with room behind the lists: nothing of it is changed, nor shared by what is added.
func TestMemoryOfPages(t *testing.T) {
	chance := rand.New(rand.NewSource(87))
	for range 300 {
		s, root, keys := anyTree(chance)
		p := &sharing{}
		for _, l := range s.List {
			room := append(slices.Clone(l.List), make([]api.Pair, 20)...)
			p.list = append(p.list, api.Leaf{Level: l.Level, List: room[:len(l.List)]})
		}
		was := copied(p.list)
		for range 5 {
			key := anyKey(chance, keys)
			tree.Put(p, root, key, chance.Uint64())
			tree.Drop(p, root, key)
			for _, l := range p.list[len(was):] {
				clear(l.List[:cap(l.List)])
			}
			if l, e := tree.Range(p, root, 0, top); e == api.OK {
				clear(l[:cap(l)])
			}
			if l, e := tree.Reach(p, root); e == api.OK {
				clear(l[:cap(l)])
			}
			p.list = p.list[:len(was)]
			if !slices.EqualFunc(p.list, was, same) {
				t.Fatal("a tree was changed")
			}
			for _, l := range p.list {
				if slices.ContainsFunc(l.List[len(l.List):cap(l.List)], func(p api.Pair) bool { return p != api.Pair{} }) {
					t.Fatal("room behind a list was changed")
				}
			}
		}
	}
}

// P8.5: trees that aren't sound.

// At each node on the way to a key the level is turned: ErrForm.
func TestWrongLevels(t *testing.T) {
	chance := rand.New(rand.NewSource(88))
	for range 300 {
		s, root, keys := anyTree(chance)
		was := copied(s.List)
		key := anyKey(chance, keys)
		path := load(s, root).path(key)
		for depth := 1; depth < len(path); depth++ {
			level := path[depth].level
			for wrong := range 8 {
				if wrong == level {
					continue
				}
				s := shelf(copied(was)...)
				turned := up(wrong)
				for i, p := range s.List[path[depth].page-1].List {
					turned.List = append(turned.List, api.Pair{Key: p.Key, Val: uint64(i + 1)})
				}
				s.List[path[depth].page-1] = turned
				for name, call := range calls(key) {
					if e, some := call(s, root); e != api.ErrForm || some {
						t.Fatal(name, depth, wrong, e, some)
					}
				}
				if len(s.List) != len(was) {
					t.Fatal("there are more nodes")
				}
			}
		}
	}
}

// What is left when a root is left out is looked at too.
func TestDropToAWrongLevel(t *testing.T) {
	for _, l := range []api.Leaf{up(1, 5, 1), up(7, 5, 1, 6, 2), {}, low(6), {Level: 9, List: low(5).List}} {
		s := shelf(low(1), l, up(1, 1, 1, 5, 2))
		dropsNot(t, s, 3, 1, api.ErrForm)
	}
	s := shelf(low(1), up(1, 1, 1), low(5), up(1, 5, 4), up(2, 1, 2, 5, 4))
	dropsNot(t, s, 5, 1, api.ErrForm)
	f := &faulty{Shelf: shelf(low(1), low(5), up(1, 1, 1, 5, 2)), bad: map[int]api.Errno{2: api.ErrDown}, after: -1}
	dropsNot(t, f, 3, 1, api.ErrDown)
}

// Pages that aren't there, and what can't be a root.
func TestRootsThatAreNot(t *testing.T) {
	for _, root := range []int{-1, 4, 512, math.MinInt, math.MaxInt} {
		for name, call := range calls(1) {
			s := shelf(low(1), low(2), up(1, 1, 1, 2, 2))
			if e, some := call(s, root); e != api.ErrForm && e != api.ErrRange || some || len(s.List) != 3 {
				t.Error(name, root, e, some)
			}
		}
	}
	for _, l := range []api.Leaf{{}, {Level: -1, List: low(1).List}, {Level: 8, List: up(0, 1, 1, 2, 2).List}, {Level: math.MaxInt, List: up(0, 1, 1, 2, 2).List}, {Level: math.MinInt}, up(3), up(1, 1, 0, 2, 0), up(1, 1, top, 2, top), low(run(0, 16)...), low(run(0, 500)...)} {
		for name, call := range calls(0, 1, top) {
			s := shelf(l)
			if e, some := call(s, 1); e != api.ErrForm || some || len(s.List) != 1 {
				t.Error(name, l, e, some)
			}
		}
	}
}

// Nodes that lead to themselves, to those above them, and all to the same one: all calls end soon.
func TestNodesThatAreShared(t *testing.T) {
	var all, selves, keyed []api.Leaf
	for level := range 8 {
		l, self, first := up(level), up(level), up(level)
		for i := range 15 {
			l.List = append(l.List, api.Pair{Key: uint64(i), Val: uint64(max(1, level))})
			self.List = append(self.List, api.Pair{Key: uint64(i), Val: uint64(level + 1)})
			first.List = append(first.List, api.Pair{Key: uint64(i) << (4 * level), Val: uint64(max(1, level))})
		}
		all, selves, keyed = append(all, l), append(selves, self), append(keyed, first)
	}
	for _, list := range [][]api.Leaf{all, selves, keyed} {
		for name, call := range calls(0, 1, 14, top) {
			e, some := call(shelf(list...), 8)
			if e != api.ErrForm && (name == "Range" || name == "Reach" || name == "Check") || e != api.OK && some {
				t.Error(name, e, some)
			}
		}
	}
}

// Shelves of any nodes: all calls end, and do no more than to add.
func TestAnyNodes(t *testing.T) {
	chance := rand.New(rand.NewSource(89))
	for range 20000 {
		n := 1 + chance.Intn(12)
		s := &tree.Shelf{Room: 511}
		for range n {
			l := api.Leaf{Level: chance.Intn(4) - chance.Intn(30)/29}
			for key := range uint64(chance.Intn(5)) {
				l.List = append(l.List, api.Pair{Key: key + uint64(chance.Intn(2)), Val: uint64(1 + chance.Intn(n+chance.Intn(2)))})
			}
			s.List = append(s.List, l)
		}
		was := copied(s.List)
		root := 1 + chance.Intn(n)
		sound := isSound(s, root)
		for name, call := range calls(uint64(chance.Intn(5))) {
			e, some := call(s, root)
			if e != api.OK && some || sound && e != api.OK || e != api.OK && e != api.ErrForm && e != api.ErrRange {
				t.Fatal(name, e, some, was, root)
			}
			if !sound && e == api.OK && (name == "Check" || name == "Reach") {
				t.Fatal(name, was, root)
			}
			unchanged(t, s, was)
		}
	}
}

// P8.6: Build.

// rising answers so many rising pairs.
func rising(n int) []api.Pair {
	var list []api.Pair
	for i := range n {
		list = append(list, api.Pair{Key: uint64(3*i + 1), Val: uint64(i) << 40})
	}
	return list
}

// built answers the nodes that a Build adds behind so many others, by the chapter's words.
func built(was int, list []api.Pair) []api.Leaf {
	var nodes []api.Leaf
	for level := 0; len(list) > 0; level++ {
		var above []api.Pair
		for i := 0; i < len(list); i += 15 {
			nodes = append(nodes, api.Leaf{Level: level, List: list[i:min(i+15, len(list))]})
			above = append(above, api.Pair{Key: list[i].Key, Val: uint64(was + len(nodes))})
		}
		if len(above) == 1 {
			break
		}
		list = above
	}
	return nodes
}

func TestBuild(t *testing.T) {
	for _, n := range []int{0, 1, 2, 14, 15, 16, 17, 29, 30, 31, 224, 225, 226, 239, 240, 241, 3374, 3375, 3376, 3390, 3391, 7000} {
		for _, was := range []int{0, 3} {
			s := shelf(make([]api.Leaf, was)...)
			list := rising(n)
			root, e := tree.Build(s, list)
			want := built(was, list)
			if e != api.OK || !slices.EqualFunc(s.List[was:], want, same) {
				t.Fatal(n, e, len(s.List))
			}
			if n == 0 && root != 0 || n > 0 && root != len(s.List) {
				t.Error(n, root)
			}
			checks(t, s, root, api.OK)
			ranges(t, s, root, 0, top, list...)
		}
	}
}

func TestBuildOfTheEndsOfKeys(t *testing.T) {
	s := shelf()
	list := []api.Pair{{Key: 0, Val: top}, {Key: top, Val: 0}}
	if root, e := tree.Build(s, list); root != 1 || e != api.OK {
		t.Error(root, e)
	}
	ranges(t, s, 1, 0, top, list...)
}

func TestBuildOfPairsThatDoNotRise(t *testing.T) {
	for _, n := range []int{2, 16, 40} {
		for i := 1; i < n; i++ {
			for _, key := range []uint64{0, rising(n)[i-1].Key, rising(n)[i-1].Key - 1} {
				s := shelf()
				list := rising(n)
				list[i].Key = key
				if root, e := tree.Build(s, list); root != 0 || e != api.ErrArg || len(s.List) != 0 {
					t.Error(n, i, root, e)
				}
				f := &faulty{Shelf: shelf(), fault: api.ErrDown}
				if root, e := tree.Build(f, list); root != 0 || e != api.ErrArg {
					t.Error(n, i, root, e)
				}
			}
		}
	}
}

func TestBuildWithFaults(t *testing.T) {
	for _, n := range []int{1, 15, 16, 300} {
		need := len(built(0, rising(n)))
		for room := range need + 1 {
			s := &tree.Shelf{Room: room}
			root, e := tree.Build(s, rising(n))
			f := &faulty{Shelf: shelf(), after: room, fault: api.ErrDown}
			other, fault := tree.Build(f, rising(n))
			if room == need {
				if root != need || e != api.OK || other != need || fault != api.OK {
					t.Error(n, room, root, e, other, fault)
				}
			} else if root != 0 || e != api.ErrPages || other != 0 || fault != api.ErrDown {
				t.Error(n, room, root, e, other, fault)
			}
		}
	}
	if root, e := tree.Build(shelf(), rising(15*511)); root != 0 || e != api.ErrPages {
		t.Error(root, e)
	}
}

// The list that is handed in isn't changed and not kept.
func TestBuildMemory(t *testing.T) {
	room := rising(60)
	p := &sharing{}
	root, e := tree.Build(p, room[:40])
	if e != api.OK || !slices.Equal(room, rising(60)) {
		t.Fatal(e, room)
	}
	was := copied(p.list)
	for i := range room {
		room[i] = api.Pair{}
	}
	if !slices.EqualFunc(p.list, was, same) {
		t.Error("the list is kept")
	}
	ranges(t, p, root, 0, top, rising(40)...)
	for _, l := range p.list {
		clear(l.List[:cap(l.List)])
	}
	if slices.ContainsFunc(room, func(p api.Pair) bool { return p != api.Pair{} }) {
		t.Error("the list is shared")
	}
}

// A store is pages too: a tree that is committed stands on the device, with all errors of the pages.

func TestTreeOnADevice(t *testing.T) {
	m := mains.New()
	d := disc.New(m, 40*api.PageSecs)
	s, e := store.Format(d, [2]int{5, 2}, 3)
	if e != api.OK {
		t.Fatal(e)
	}
	root := 0
	for i := range 100 {
		root = puts(t, s, root, uint64(i*37%100), uint64(i))
		pages, e := tree.Reach(s, root)
		if e != api.OK {
			t.Fatal(e)
		}
		s.Sweep(pages...)
	}
	pages, _ := tree.Reach(s, root)
	if e := s.Commit(root, pages...); e != api.OK {
		t.Fatal(e)
	}
	lost := drops(t, s, root, 50)
	getsNot(t, s, lost, 50, api.OK)
	gets(t, s, root, 50, 50)
	m.Cut()
	for name, call := range calls(50) {
		if e, some := call(s, root); e != api.ErrDown || some {
			t.Error(name, e, some)
		}
	}
	d.Settle("")
	m.Come()
	if s, e = store.Open(d); e != api.OK {
		t.Fatal(e)
	}
	root = s.Head().Root
	reaches(t, s, root, pages...)
	for i := range 100 {
		gets(t, s, root, uint64(i*37%100), uint64(i))
	}
	// a page whose bytes are no node's
	d.Write(pages[len(pages)-1]*api.PageSecs, "0123456789abcdef")
	checks(t, s, root, api.ErrForm)
	rangesNot(t, s, root, 0, top, api.ErrForm)
	checks(t, s, 40, api.ErrForm)
	checks(t, s, -1, api.ErrForm)
}
