package reach_test

import (
	"math"
	"math/rand"
	"slices"
	"testing"

	"tierce/api"
	"tierce/disc"
	"tierce/leaf"
	"tierce/mains"
	"tierce/reach"
	"tierce/store"
	"tierce/tree"
)

const top = math.MaxUint64

// Helpers: nodes and shelves.

// low answers a leaf with these keys, and a Val at each that is a page's number as well.
func low(keys ...uint64) api.Leaf {
	var l api.Leaf
	for _, k := range keys {
		l.List = append(l.List, api.Pair{Key: k, Val: 1 + k%3})
	}
	return l
}

// up answers a node above the leaves, of keys and pages by turns.
func up(level int, list ...uint64) api.Leaf {
	l := api.Leaf{Level: level}
	for i := 0; i < len(list); i += 2 {
		l.List = append(l.List, api.Pair{Key: list[i], Val: list[i+1]})
	}
	return l
}

// shelf answers one with these nodes, and all the room that there may be.
func shelf(list ...api.Leaf) *tree.Shelf { return &tree.Shelf{List: list, Room: 511} }

// same tells whether two nodes are one, a list of nothing being nil or empty.
func same(a, b api.Leaf) bool {
	return a.Level == b.Level && slices.Equal(a.List, b.List)
}

// copied answers nodes that share no memory with list.
func copied(list []api.Leaf) []api.Leaf {
	var out []api.Leaf
	for _, l := range list {
		out = append(out, api.Leaf{Level: l.Level, List: slices.Clone(l.List)})
	}
	return out
}

// rising answers so many rising pairs.
func rising(n int) []api.Pair {
	var list []api.Pair
	for i := range n {
		list = append(list, api.Pair{Key: uint64(i), Val: uint64(i) << 40})
	}
	return list
}

// Helpers: calls that are as they should be.

// leads fails the test, unless Refs and Pages answer these pages and counts, by turns.
func leads(t *testing.T, p tree.Pages, roots []int, want ...int) {
	t.Helper()
	var refs []reach.Ref
	var pages []int
	for i := 0; i < len(want); i += 2 {
		refs = append(refs, reach.Ref{Page: want[i], Count: want[i+1]})
		pages = append(pages, want[i])
	}
	answers(t, p, roots, refs, pages)
}

// answers fails the test, unless Refs and Pages answer that, and leave the roots as they are.
func answers(t *testing.T, p tree.Pages, roots []int, refs []reach.Ref, pages []int) {
	t.Helper()
	was := slices.Clone(roots)
	if got, e := reach.Refs(p, roots...); !slices.Equal(got, refs) || e != api.OK {
		t.Errorf("Refs of %v: %v, %v; not %v", roots, got, e, refs)
	}
	if got, e := reach.Pages(p, roots...); !slices.Equal(got, pages) || e != api.OK {
		t.Errorf("Pages of %v: %v, %v; not %v", roots, got, e, pages)
	}
	if !slices.Equal(roots, was) {
		t.Errorf("the roots %v are %v now", was, roots)
	}
}

// leadsNot fails the test, unless Refs and Pages answer that error.
func leadsNot(t *testing.T, p tree.Pages, roots []int, want api.Errno) {
	t.Helper()
	if got, e := reach.Refs(p, roots...); len(got) != 0 || e != want {
		t.Errorf("Refs of %v: %v, %v; not %v", roots, got, e, want)
	}
	if got, e := reach.Pages(p, roots...); len(got) != 0 || e != want {
		t.Errorf("Pages of %v: %v, %v; not %v", roots, got, e, want)
	}
}

// put answers the root of a tree with a key more.
func put(t *testing.T, p tree.Pages, root int, key uint64) int {
	t.Helper()
	now, e := tree.Put(p, root, key, key)
	if e != api.OK {
		t.Fatal(root, key, e)
	}
	return now
}

// pagesOf answers the pages of a sound tree.
func pagesOf(t *testing.T, p tree.Pages, root int) []int {
	t.Helper()
	pages, e := tree.Reach(p, root)
	if e != api.OK {
		t.Fatal(root, e)
	}
	return pages
}

// Helpers: what the chapter says, told in another way.

// counted answers what leads to each page, by the chapter's words: for each page that one of the trees needs, all the others are asked.
func counted(t *testing.T, s *tree.Shelf, roots []int) ([]reach.Ref, []int) {
	t.Helper()
	var pages []int
	for _, root := range roots {
		pages = append(pages, pagesOf(t, s, root)...)
	}
	slices.Sort(pages)
	pages = slices.Compact(pages)
	var refs []reach.Ref
	for _, page := range pages {
		ref := reach.Ref{Page: page}
		for _, root := range roots {
			if root == page {
				ref.Count++
			}
		}
		for _, other := range pages {
			for _, pair := range s.List[other-1].List {
				if s.List[other-1].Level > 0 && pair.Val == uint64(page) {
					ref.Count++
				}
			}
		}
		refs = append(refs, ref)
	}
	return refs, pages
}

// Helpers: trees of all kinds.

// grown answers a shelf with trees that were changed by turns, and their roots, that of each change.
func grown(chance *rand.Rand, t *testing.T) (*tree.Shelf, []int) {
	s, roots := shelf(), []int{0}
	keys := 1 + chance.Intn([]int{4, 40, 400}[chance.Intn(3)])
	if chance.Intn(3) == 0 {
		root, e := tree.Build(s, rising(chance.Intn(3000)))
		if e != api.OK {
			t.Fatal(e)
		}
		roots = append(roots, root)
	}
	for range chance.Intn(60) {
		root := roots[len(roots)-1]
		if chance.Intn(8) == 0 {
			root = roots[chance.Intn(len(roots))]
		}
		now, e := change(chance, s, root, uint64(chance.Intn(keys)))
		if e == api.ErrPages {
			break
		}
		if e != api.OK {
			t.Fatal(e)
		}
		roots = append(roots, now)
	}
	return s, roots
}

// change answers the root of a tree with or without a key.
func change(chance *rand.Rand, p tree.Pages, root int, key uint64) (int, api.Errno) {
	if chance.Intn(5) < 3 {
		return tree.Put(p, root, key, chance.Uint64())
	}
	now, _, e := tree.Drop(p, root, key)
	return now, e
}

// some answers so many of these roots, any of them, and as often as chance has it.
func some(chance *rand.Rand, roots []int, n int) []int {
	var out []int
	for range n {
		out = append(out, roots[chance.Intn(len(roots))])
	}
	return out
}

// shuffled answers a shelf with the same nodes at other pages, and the roots there.
func shuffled(chance *rand.Rand, s *tree.Shelf, roots []int) (*tree.Shelf, []int) {
	at := chance.Perm(len(s.List))
	out := shelf(make([]api.Leaf, len(s.List))...)
	for i, l := range copied(s.List) {
		for j := range l.List {
			if l.Level > 0 {
				l.List[j].Val = uint64(at[l.List[j].Val-1] + 1)
			}
		}
		out.List[at[i]] = l
	}
	var now []int
	for _, root := range roots {
		if root != 0 {
			root = at[root-1] + 1
		}
		now = append(now, root)
	}
	return out, now
}

// Helpers: pages of other kinds.

// faulty is a shelf of which some pages answer an error, and all of them behind so many uses. Beside an error there is a node nonetheless.
type faulty struct {
	*tree.Shelf
	bad   map[int]api.Errno
	after int // so many uses are well; all are, if it is below 0
	fault api.Errno
}

func (f *faulty) Read(page int) (api.Leaf, api.Errno) {
	if f.after == 0 {
		return low(1, 2, 3), f.fault
	}
	f.after--
	if e := f.bad[page]; e != api.OK {
		return low(1, 2, 3), e
	}
	return f.Shelf.Read(page)
}

// reading is a shelf to which nothing may be added, and that counts what is read.
type reading struct {
	*tree.Shelf
	reads int
	adds  int
}

func (r *reading) Read(page int) (api.Leaf, api.Errno) {
	r.reads++
	return r.Shelf.Read(page)
}

func (r *reading) Add(l api.Leaf) (int, api.Errno) {
	r.adds++
	return r.Shelf.Add(l)
}

// again is pages that use the memory of the list they answered once more for the next one.
type again struct {
	shelf *tree.Shelf
	room  [32]api.Pair
}

func (a *again) Read(page int) (api.Leaf, api.Errno) {
	l, e := a.shelf.Read(page)
	n := copy(a.room[:], l.List)
	return api.Leaf{Level: l.Level, List: a.room[:n]}, e
}

func (a *again) Add(l api.Leaf) (int, api.Errno) { return a.shelf.Add(l) }

// whims is pages that answer something else each time: one of the nodes, or an error, or a panic.
type whims struct {
	chance *rand.Rand
	list   []api.Leaf
}

func (w *whims) Read(int) (api.Leaf, api.Errno) {
	switch n := w.chance.Intn(40); {
	case n == 0:
		panic("no page")
	case n == 1:
		return api.Leaf{}, api.Errno(w.chance.Intn(12))
	}
	return w.list[w.chance.Intn(len(w.list))], api.OK
}

func (w *whims) Add(api.Leaf) (int, api.Errno) { return 1, api.OK }

// own is the caller's own kind of pages, of which a nil panics.
type own struct{ shelf tree.Shelf }

func (o *own) Read(page int) (api.Leaf, api.Errno) { return o.shelf.Read(page) }
func (o *own) Add(l api.Leaf) (int, api.Errno)     { return o.shelf.Add(l) }

// P9.1: how often each page is led to.

// Of a tree, twice among the roots: its root is led to twice, the others once.
func TestTheExample(t *testing.T) {
	s := shelf()
	root := 0
	for i := range uint64(16) {
		root = put(t, s, root, i)
	}
	pages := pagesOf(t, s, root)
	if len(pages) != 3 || root != 18 {
		t.Fatal(pages, root)
	}
	leads(t, s, []int{root}, 16, 1, 17, 1, 18, 1)
	leads(t, s, []int{root, root}, 16, 1, 17, 1, 18, 2)
	leads(t, s, []int{root, 0, root, root, 0}, 16, 1, 17, 1, 18, 3)
}

func TestNoRoots(t *testing.T) {
	for _, p := range []tree.Pages{shelf(low(1)), shelf(), nil, (*tree.Shelf)(nil), (*store.Store)(nil), (*own)(nil)} {
		leads(t, p, nil)
		leads(t, p, []int{})
		leads(t, p, []int{0})
		leads(t, p, []int{0, 0, 0})
	}
}

func TestALeaf(t *testing.T) {
	s := shelf(low(1, 2, 3), low(), low(9))
	leads(t, s, []int{1}, 1, 1)
	leads(t, s, []int{3}, 3, 1)
	leads(t, s, []int{0, 3, 0, 1, 0, 3}, 1, 1, 3, 2)
}

// Trees that share leaves, and nodes above the leaves: the pairs of a page that two need are counted once.
func TestTreesThatShare(t *testing.T) {
	s := shelf(
		low(1), low(5), low(9), low(7), // 1 to 4
		up(1, 1, 1, 5, 2), // 5
		up(1, 1, 1, 7, 4), // 6
		up(1, 9, 3),       // 7
		up(2, 1, 5, 9, 7), // 8
		up(2, 1, 6, 9, 7), // 9
	)
	leads(t, s, []int{8}, 1, 1, 2, 1, 3, 1, 5, 1, 7, 1, 8, 1)
	leads(t, s, []int{9}, 1, 1, 3, 1, 4, 1, 6, 1, 7, 1, 9, 1)
	leads(t, s, []int{8, 9}, 1, 2, 2, 1, 3, 1, 4, 1, 5, 1, 6, 1, 7, 2, 8, 1, 9, 1)
	leads(t, s, []int{9, 8, 9}, 1, 2, 2, 1, 3, 1, 4, 1, 5, 1, 6, 1, 7, 2, 8, 1, 9, 2)
	leads(t, s, []int{5, 6}, 1, 2, 2, 1, 4, 1, 5, 1, 6, 1)
}

// A root that is a node of another tree as well: by that it is led to once more.
func TestARootWithinATree(t *testing.T) {
	s := shelf(
		low(1), low(5), low(9), // 1 to 3
		up(1, 1, 1, 5, 2), // 4
		up(1, 9, 3),       // 5
		up(2, 1, 4, 9, 5), // 6
	)
	leads(t, s, []int{4}, 1, 1, 2, 1, 4, 1)
	leads(t, s, []int{6, 4}, 1, 1, 2, 1, 3, 1, 4, 2, 5, 1, 6, 1)
	leads(t, s, []int{4, 6}, 1, 1, 2, 1, 3, 1, 4, 2, 5, 1, 6, 1)
	leads(t, s, []int{3, 6, 3, 4, 2}, 1, 1, 2, 2, 3, 3, 4, 2, 5, 1, 6, 1)
}

// The Vals of leaves lead nowhere, though they may be those of pages.
func TestValsOfLeaves(t *testing.T) {
	s := shelf(up(0, 1, 1, 2, 2, 3, 3), up(0, 7, 1, 8, top), up(1, 1, 1, 7, 2))
	leads(t, s, []int{3}, 1, 1, 2, 1, 3, 1)
	leads(t, s, []int{1}, 1, 1)
}

// The pages rise, however they stand in the trees and among the roots.
func TestThePagesRise(t *testing.T) {
	s := shelf(up(2, 1, 6, 9, 2), up(1, 9, 4), low(5), low(9), low(1), up(1, 1, 5, 5, 3))
	leads(t, s, []int{1}, 1, 1, 2, 1, 3, 1, 4, 1, 5, 1, 6, 1)
	leads(t, s, []int{5, 4, 3}, 3, 1, 4, 1, 5, 1)
	leads(t, s, []int{6, 1, 4}, 1, 1, 2, 1, 3, 1, 4, 2, 5, 1, 6, 2)
}

// All pages that there may be, in one tree and in many.
func TestAllPages(t *testing.T) {
	s := shelf()
	root, e := tree.Build(s, rising(15*475))
	if e != api.OK || len(s.List) != 475+32+3+1 {
		t.Fatal(e, len(s.List))
	}
	var want []int
	for page := 1; page <= 511; page++ {
		want = append(want, page, 1)
	}
	leads(t, s, []int{root}, want...)
	s = shelf()
	var roots []int
	want = nil
	for page := 511; page >= 1; page-- {
		s.List = append(s.List, low(uint64(page)))
		roots = append(roots, page, page)
		want = append(want, 512-page, 2)
	}
	leads(t, s, roots, want...)
}

func TestTreesOfAnyKind(t *testing.T) {
	chance := rand.New(rand.NewSource(91))
	for range 400 {
		s, roots := grown(chance, t)
		s, roots = shuffled(chance, s, roots)
		was := copied(s.List)
		for _, n := range []int{1, 2, 3, 10, 60} {
			roots := some(chance, roots, n)
			refs, pages := counted(t, s, roots)
			answers(t, s, roots, refs, pages)
			answers(t, &again{shelf: s}, roots, refs, pages)
			r := &reading{Shelf: s}
			answers(t, r, roots, refs, pages)
			if r.adds != 0 {
				t.Fatal("nodes were added")
			}
			// each of the two calls reads each page once
			if r.reads != 2*len(pages) {
				t.Error(r.reads, len(pages))
			}
		}
		if !slices.EqualFunc(s.List, was, same) {
			t.Fatal("the nodes were changed")
		}
	}
}

// The order of the roots plays no part.
func TestTheOrderOfRoots(t *testing.T) {
	chance := rand.New(rand.NewSource(92))
	for range 100 {
		s, all := grown(chance, t)
		roots := some(chance, all, 8)
		want, e := reach.Refs(s, roots...)
		if e != api.OK {
			t.Fatal(e)
		}
		chance.Shuffle(len(roots), func(i, j int) { roots[i], roots[j] = roots[j], roots[i] })
		if got, e := reach.Refs(s, roots...); !slices.Equal(got, want) || e != api.OK {
			t.Error(got, want, e)
		}
	}
}

// Answers are new memory.
func TestTheMemoryOfAnswers(t *testing.T) {
	s := shelf(low(1), low(5), up(1, 1, 1, 5, 2))
	roots := []int{3, 1, 3}
	refs, _ := reach.Refs(s, roots...)
	pages, _ := reach.Pages(s, roots...)
	clear(refs[:cap(refs)])
	clear(pages[:cap(pages)])
	leads(t, s, roots, 1, 2, 2, 1, 3, 2)
	if !slices.Equal(roots, []int{3, 1, 3}) {
		t.Error(roots)
	}
}

// P9.1: trees that aren't sound.

func TestTreesThatAreNot(t *testing.T) {
	for _, list := range [][]api.Leaf{
		{up(1, 1, 2, 5, 11), low(1)},                                    // a page that isn't there
		{up(1, 1, 2, 5, 2), low(1)},                                     // one that is met twice
		{up(1, 1, 2, 5, 1), low(1)},                                     // itself
		{up(2, 1, 2, 5, 3), up(1, 1, 4), up(1, 5, 4), low(1)},           // one below two nodes
		{up(2, 1, 2, 5, 3), up(1, 1, 4, 3, 5), up(1, 5, 5), low(1), {}}, // one without pairs
		{up(1, 1, 2), low(1)},                                           // a root above the leaves with one pair
		{up(2, 1, 2, 5, 3), low(1), low(5)},                             // a level that is skipped
		{up(1, 1, 2, 5, 3), low(1), up(1, 5, 2)},                        // a level twice
		{up(1, 1, 2, 5, 3), low(1), low(6)},                             // a key above its pair's
		{up(1, 1, 2, 5, 3), low(1, 5), low(5)},                          // one that is the next pair's
		{up(1, 1, 2, 5, 3), low(1, 6), low(5)},                          // one above the next pair's
		{up(1, 5, 3, 1, 2), low(1), low(5)},                             // keys that don't rise
		{up(1, 1, 0, 5, 2), low(5)},                                     // the page of heads
		{up(1, 1, 2, 5, top), low(1)},                                   // no page at all
		{up(8, 1, 2, 5, 3), up(7, 1, 2), up(7, 5, 3)},                   // too many levels
		{{Level: -1, List: low(1).List}},                                // no level
		{{}},                                                            // no pairs
		{api.Leaf{List: rising(16)}},                                    // too many pairs
	} {
		// so many pages lie between that a lead beyond the list doesn't come to the sound tree
		well := 10
		s := shelf(append(copied(list), make([]api.Leaf, well-len(list))...)...)
		s.List[well-1] = low(3)
		leads(t, s, []int{well, 0, well}, well, 2)
		for _, roots := range [][]int{{1}, {1, 1}, {well, 1}, {1, well}, {0, 1}, {well, well, 0, 1, 0}} {
			leadsNot(t, s, roots, api.ErrForm)
		}
	}
}

func TestRootsThatAreNot(t *testing.T) {
	s := shelf(low(1), low(5), up(1, 1, 1, 5, 2))
	for _, root := range []int{-1, 4, 5, 511, 512, math.MaxInt, math.MinInt, 1<<32 + 1, -1 << 32} {
		leadsNot(t, s, []int{root}, api.ErrForm)
		leadsNot(t, s, []int{root, 3}, api.ErrForm)
		leadsNot(t, s, []int{3, 0, root}, api.ErrForm)
		leadsNot(t, shelf(), []int{root}, api.ErrForm)
	}
	leadsNot(t, new(tree.Shelf), []int{1}, api.ErrForm)
}

// A node that can be below others, but no root: with one pair alone.
func TestANodeOfOnePairAsARoot(t *testing.T) {
	s := shelf(low(1), low(5), up(1, 1, 1), up(1, 5, 2), up(2, 1, 3, 5, 4))
	leads(t, s, []int{5}, 1, 1, 2, 1, 3, 1, 4, 1, 5, 1)
	for _, roots := range [][]int{{3}, {5, 3}, {3, 5}, {5, 5, 4}, {4, 1}} {
		leadsNot(t, s, roots, api.ErrForm)
	}
	leads(t, s, []int{5, 1, 2}, 1, 2, 2, 2, 3, 1, 4, 1, 5, 1)
}

// Shelves of any nodes: ErrForm, unless all trees are sound.
func TestAnyNodes(t *testing.T) {
	chance := rand.New(rand.NewSource(93))
	count := [2]int{}
	for range 20000 {
		n := 1 + chance.Intn(10)
		s := shelf()
		for range n {
			l := api.Leaf{Level: chance.Intn(3) - chance.Intn(30)/29}
			for key := range uint64(chance.Intn(5)) {
				l.List = append(l.List, api.Pair{Key: key + uint64(chance.Intn(2)), Val: uint64(1 + chance.Intn(n))})
			}
			s.List = append(s.List, l)
		}
		var roots []int
		sound := 1
		for range 1 + chance.Intn(3) {
			root := chance.Intn(n + 1)
			roots = append(roots, root)
			if tree.Check(s, root) != api.OK {
				sound = 0
			}
		}
		count[sound]++
		if sound == 0 {
			leadsNot(t, s, roots, api.ErrForm)
		} else {
			refs, pages := counted(t, s, roots)
			answers(t, s, roots, refs, pages)
		}
	}
	if count[0] < 500 || count[1] < 500 {
		t.Error(count)
	}
}

// Nodes that lead to themselves, to those above them, and all to the same one: the calls end soon.
func TestNodesThatAreMetTooOften(t *testing.T) {
	var all, selves []api.Leaf
	for level := range 8 {
		l, self := up(level), up(level)
		for i := range uint64(15) {
			l.List = append(l.List, api.Pair{Key: i, Val: uint64(max(1, level))})
			self.List = append(self.List, api.Pair{Key: i, Val: uint64(level + 1)})
		}
		all, selves = append(all, l), append(selves, self)
	}
	for _, list := range [][]api.Leaf{all, selves} {
		leadsNot(t, shelf(list...), []int{8, 7, 6, 5, 4, 3, 2}, api.ErrForm)
	}
}

// P9.1: the pages' errors.

func TestErrorsOfPages(t *testing.T) {
	list := []api.Leaf{low(1), low(5), low(7), up(1, 1, 1, 5, 2), up(1, 1, 1, 7, 3)}
	for _, want := range []api.Errno{api.ErrDown, api.ErrMiss, api.ErrArg, api.ErrNil, api.ErrPages, -3, 99} {
		for bad := 1; bad <= 5; bad++ {
			f := &faulty{Shelf: shelf(copied(list)...), bad: map[int]api.Errno{bad: want}, after: -1}
			for _, roots := range [][]int{{4}, {5}, {4, 5}, {5, 4}, {5, 0, 4, 1}} {
				_, pages := counted(t, f.Shelf, roots)
				if slices.Contains(pages, bad) {
					leadsNot(t, f, roots, want)
				} else {
					refs, _ := counted(t, f.Shelf, roots)
					answers(t, f, roots, refs, pages)
				}
			}
		}
	}
}

// A page that can't be, or isn't there, by the pages' own words: that is no sound tree.
func TestErrorsThatAreNodesThatCanNotBe(t *testing.T) {
	for _, own := range []api.Errno{api.ErrForm, api.ErrRange} {
		f := &faulty{Shelf: shelf(low(1), low(5), up(1, 1, 1, 5, 2)), bad: map[int]api.Errno{2: own}, after: -1}
		leadsNot(t, f, []int{3}, api.ErrForm)
		leadsNot(t, f, []int{1, 3}, api.ErrForm)
		leads(t, f, []int{1}, 1, 1)
	}
}

// Of several errors the first one that is met.
func TestTheFirstErrorOfPages(t *testing.T) {
	f := &faulty{Shelf: shelf(low(1), low(5), low(7)), bad: map[int]api.Errno{1: api.ErrDown, 3: api.ErrMiss}, after: -1}
	leadsNot(t, f, []int{1, 2, 3}, api.ErrDown)
	leadsNot(t, f, []int{0, 2, 3, 1}, api.ErrMiss)
	leads(t, f, []int{2}, 2, 1)
}

// A tree that isn't sound is told ahead of the pages' error, in whichever tree that is.
func TestErrFormIsFirst(t *testing.T) {
	list := []api.Leaf{low(1), low(5), up(1, 1, 1, 5, 2), up(1, 1, 1, 6, 2), up(1, 1, 1, 9, 5)}
	for _, bad := range []int{1, 3} {
		f := &faulty{Shelf: shelf(copied(list)...), bad: map[int]api.Errno{bad: api.ErrDown}, after: -1}
		leadsNot(t, f, []int{3}, api.ErrDown)
		for _, wrong := range []int{4, 5, 6, -1} {
			for _, roots := range [][]int{{wrong}, {3, wrong}, {wrong, 3}, {3, 2, 0, wrong, 3}} {
				leadsNot(t, f, roots, api.ErrForm)
			}
		}
	}
}

// The pages fail behind so many uses: the error, or all is as it was.
func TestFaultsAtEachUse(t *testing.T) {
	chance := rand.New(rand.NewSource(94))
	for range 60 {
		s, all := grown(chance, t)
		roots := some(chance, all, 4)
		refs, pages := counted(t, s, roots)
		for after := range len(pages) + 1 {
			f := &faulty{Shelf: s, after: after, fault: api.ErrDown}
			got, e := reach.Refs(f, roots...)
			if after < len(pages) && (len(got) != 0 || e != api.ErrDown) || after == len(pages) && (!slices.Equal(got, refs) || e != api.OK) {
				t.Fatal(after, len(pages), got, e)
			}
			f = &faulty{Shelf: s, after: after, fault: api.ErrDown}
			list, e := reach.Pages(f, roots...)
			if after < len(pages) && (len(list) != 0 || e != api.ErrDown) || after == len(pages) && (!slices.Equal(list, pages) || e != api.OK) {
				t.Fatal(after, len(pages), list, e)
			}
		}
	}
}

// Pages that aren't there: where none are used, all is as ever (TestNoRoots).
func TestNoPages(t *testing.T) {
	for _, p := range []tree.Pages{nil, (*tree.Shelf)(nil), (*store.Store)(nil), (*own)(nil)} {
		for _, roots := range [][]int{{1}, {0, 1}, {1, 2, 0}, {-1}, {math.MinInt, math.MaxInt}} {
			leadsNot(t, p, roots, api.ErrNil)
		}
	}
}

// Pages whose answers change from time to time: all calls end, and none panics.
func TestPagesOfWhims(t *testing.T) {
	chance := rand.New(rand.NewSource(95))
	for range 300 {
		s, all := grown(chance, t)
		if len(s.List) == 0 {
			continue
		}
		w := &whims{chance: chance, list: s.List}
		for range 20 {
			roots := some(chance, all, 3)
			refs, e := reach.Refs(w, roots...)
			if e != api.OK && len(refs) != 0 {
				t.Fatal(refs, e)
			}
			pages, e := reach.Pages(w, roots...)
			if e != api.OK && len(pages) != 0 {
				t.Fatal(pages, e)
			}
		}
	}
}

// A store is pages too.
func TestTreesOnADevice(t *testing.T) {
	m := mains.New()
	d := disc.New(m, 60*api.PageSecs)
	s, e := store.Format(d, [2]int{5, 2}, 3)
	if e != api.OK {
		t.Fatal(e)
	}
	was, e := tree.Build(s, rising(100))
	if e != api.OK || was != 8 {
		t.Fatal(was, e)
	}
	now := put(t, s, was, 200)
	leads(t, s, []int{was, now}, 1, 2, 2, 2, 3, 2, 4, 2, 5, 2, 6, 2, 7, 1, 8, 1, 9, 1, 10, 1)
	pages, e := reach.Pages(s, was, now)
	if e != api.OK || s.Commit(now, pages...) != api.OK {
		t.Fatal(pages, e)
	}
	m.Cut()
	leadsNot(t, s, []int{was, now}, api.ErrDown)
	leads(t, s, []int{0})
	d.Settle("")
	m.Come()
	if s, e = store.Open(d); e != api.OK || s.Head().Root != now {
		t.Fatal(e, s.Head())
	}
	leads(t, s, []int{now, was, now}, 1, 2, 2, 2, 3, 2, 4, 2, 5, 2, 6, 2, 7, 1, 8, 1, 9, 1, 10, 2)
	// a page that only the older tree has is turned
	d.Write(7*api.PageSecs, "0123456789abcdef")
	leadsNot(t, s, []int{now, was, now}, api.ErrForm)
	leads(t, s, []int{now}, 1, 1, 2, 1, 3, 1, 4, 1, 5, 1, 6, 1, 9, 1, 10, 1)
	leadsNot(t, s, []int{now, 60}, api.ErrForm)
}

// P9.2: how many pages a change needs, and how many leads there are.

// levels answers how many levels a tree has.
func levels(s *tree.Shelf, root int) int {
	if root == 0 {
		return 0
	}
	return s.List[root-1].Level + 1
}

// news answers how many pages a tree needs that what was doesn't.
func news(t *testing.T, s *tree.Shelf, was []int, now int) int {
	t.Helper()
	_, before := counted(t, s, was)
	both, e := reach.Pages(s, append(slices.Clone(was), now)...)
	if e != api.OK {
		t.Fatal(e)
	}
	return len(both) - len(before)
}

func TestNewPagesOfAChange(t *testing.T) {
	chance := rand.New(rand.NewSource(96))
	for range 300 {
		s, roots := grown(chance, t)
		for range 5 {
			was, had := roots[chance.Intn(len(roots))], len(s.List)
			now, e := change(chance, s, was, uint64(chance.Intn(400)))
			if e == api.ErrPages {
				break
			}
			if e != api.OK {
				t.Fatal(e)
			}
			old := pagesOf(t, s, was)
			added := 0
			for _, page := range pagesOf(t, s, now) {
				if !slices.Contains(old, page) {
					added++
					if page <= had {
						t.Error("the page", page, "is neither new nor of what was")
					}
				}
			}
			if n := news(t, s, []int{was}, now); n != added || n > levels(s, now)+3 {
				t.Error(n, added, levels(s, now))
			}
			roots = append(roots, now)
		}
	}
}

// A tree of three levels in which each node is full: the nodes of a path are parted, and a root stands above them. No change needs more.
func TestNewPagesOfAFullTree(t *testing.T) {
	for _, key := range []uint64{0, 1, 3000, 6749, 7000} {
		s := shelf()
		var list []api.Pair
		for i := range uint64(3375) {
			list = append(list, api.Pair{Key: 2*i + 1})
		}
		was, e := tree.Build(s, list)
		if e != api.OK || levels(s, was) != 3 {
			t.Fatal(e, levels(s, was))
		}
		now := put(t, s, was, key)
		want, high := 7, 4
		if key%2 == 1 { // there is one such
			want, high = 3, 3
		}
		if n := news(t, s, []int{was}, now); n != want || levels(s, now) != high {
			t.Error(key, n, levels(s, now))
		}
	}
}

// A tree by a hundred changes: what each of them needs is the only thing that is new.
func TestNewPagesOfManyTrees(t *testing.T) {
	s := shelf()
	roots := []int{0}
	for i := range uint64(100) {
		now := put(t, s, roots[len(roots)-1], i*37%100)
		if n := news(t, s, roots, now); n == 0 || n > levels(s, now)+3 {
			t.Error(i, n)
		}
		roots = append(roots, now)
	}
}

// All leads are as many as the pairs above the leaves, and the roots that aren't 0.
func TestTheSumOfLeads(t *testing.T) {
	chance := rand.New(rand.NewSource(97))
	for range 400 {
		s, all := grown(chance, t)
		s, all = shuffled(chance, s, all)
		roots := some(chance, all, chance.Intn(12))
		refs, e := reach.Refs(s, roots...)
		if e != api.OK {
			t.Fatal(e)
		}
		sum, want := 0, 0
		for _, r := range refs {
			if r.Count < 1 {
				t.Error(r)
			}
			sum += r.Count
			if l := s.List[r.Page-1]; l.Level > 0 {
				want += len(l.List)
			}
		}
		for _, root := range roots {
			if root != 0 {
				want++
			}
		}
		if sum != want {
			t.Error(sum, want)
		}
	}
}

// The nodes of these tests are what they should be.
func TestTheHelpers(t *testing.T) {
	for _, l := range []api.Leaf{low(1, 2), up(1, 1, 1, 5, 2), up(7, 0, 511, top, 1)} {
		if !leaf.Good(l) {
			t.Error(l)
		}
	}
}
