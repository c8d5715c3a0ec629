package owners_test

import (
	"math"
	"math/rand"
	"slices"
	"testing"

	"tierce/api"
	"tierce/owners"
)

// Helpers: a book by the chapter's words, as two heaps of who owns what.

// deed is that an owner has a chunk.
type deed struct {
	chunk int
	owner api.Owner
}

// heaps tells which deeds there are now, and which there were at the last commit, in any order.
type heaps struct {
	now, last []deed
}

func (h *heaps) add(chunk int, o api.Owner) api.Errno {
	if chunk < 1 || chunk > 1023 {
		return api.ErrArg
	}
	if slices.Contains(h.now, deed{chunk, o}) {
		return api.ErrDup
	}
	h.now = append(h.now, deed{chunk, o})
	return api.OK
}

func (h *heaps) remove(chunk int, o api.Owner) (bool, api.Errno) {
	i := slices.Index(h.now, deed{chunk, o})
	if i < 0 {
		return false, api.ErrMiss
	}
	h.now = slices.Delete(h.now, i, i+1)
	return len(of(h.now, chunk)) == 0, api.OK
}

func (h *heaps) commit() { h.last = slices.Clone(h.now) }

// alone tells whether a chunk's owners are o alone, and at the last commit there was no other one.
func (h *heaps) alone(chunk int, o api.Owner) bool {
	other := func(p api.Owner) bool { return p != o }
	now := of(h.now, chunk)
	return len(now) > 0 && !slices.ContainsFunc(now, other) && !slices.ContainsFunc(of(h.last, chunk), other)
}

// free answers the lowest chunk of which no deed is, or was.
func (h *heaps) free() int {
	for chunk := 1; chunk <= 1023; chunk++ {
		if len(of(h.now, chunk)) == 0 && len(of(h.last, chunk)) == 0 {
			return chunk
		}
	}
	return 0
}

// chunks answers those of which there are deeds, rising.
func (h *heaps) chunks() []int {
	var out []int
	for _, d := range h.now {
		out = append(out, d.chunk)
	}
	slices.Sort(out)
	return slices.Compact(out)
}

// of answers a chunk's owners, rising.
func of(deeds []deed, chunk int) []api.Owner {
	var out []api.Owner
	for _, d := range deeds {
		if d.chunk == chunk {
			out = append(out, d.owner)
		}
	}
	slices.SortFunc(out, func(a, b api.Owner) int {
		if below(a, b) {
			return -1
		}
		return 1
	})
	return out
}

// below tells whether a stands ahead of b, which is another one.
func below(a, b api.Owner) bool {
	if a.Volume != b.Volume {
		return a.Volume < b.Volume
	}
	if a.Birth != b.Birth {
		return a.Birth < b.Birth
	}
	return a.At < b.At
}

// Helpers: owners and chunks.

// ends answers whole numbers of all kinds.
func ends() []int {
	return []int{math.MinInt, math.MinInt32, -1, 0, 1, math.MaxInt32, math.MaxInt}
}

// rising answers all owners of those numbers, rising.
func rising() []api.Owner {
	var out []api.Owner
	for _, v := range ends() {
		for _, b := range ends() {
			for _, at := range ends() {
				out = append(out, api.Owner{Volume: v, Birth: b, At: at})
			}
		}
	}
	return out
}

// noChunks answers numbers that no chunk has.
func noChunks() []int {
	return []int{0, -1, 1024, 1025, 1 << 16, 1 << 32, 1<<32 + 4, -1 << 32, math.MaxInt32, math.MinInt32, math.MaxInt, math.MinInt, math.MinInt + 4}
}

// Three owners, rising.
func x() api.Owner { return api.Owner{Volume: 1, At: 3} }
func y() api.Owner { return api.Owner{Volume: 1, Birth: 1, At: 2} }
func z() api.Owner { return api.Owner{Volume: 2} }

// book answers one with these chunks, of which each has that owner alone, and had none at the last commit.
func book(t *testing.T, o api.Owner, chunks ...int) *owners.Book {
	t.Helper()
	b := owners.New()
	for _, chunk := range chunks {
		adds(t, b, chunk, o)
	}
	return b
}

// shared answers a book with one chunk that these have; nobody had it at the last commit.
func shared(t *testing.T, chunk int, list ...api.Owner) *owners.Book {
	t.Helper()
	b := owners.New()
	adds(t, b, chunk, list...)
	return b
}

// Helpers: what is wanted.

// says fails the test, unless e is want.
func says(t *testing.T, e, want api.Errno) {
	t.Helper()
	if e != want {
		t.Errorf("%d; want %d", e, want)
	}
}

func adds(t *testing.T, b *owners.Book, chunk int, list ...api.Owner) {
	t.Helper()
	for _, o := range list {
		says(t, b.Add(chunk, o), api.OK)
	}
}

// removed fails the test, unless that and that error were answered.
func removed(t *testing.T, want bool, wantE api.Errno) func(bool, api.Errno) {
	return func(last bool, e api.Errno) {
		t.Helper()
		if last != want || e != wantE {
			t.Errorf("%v, %d; want %v, %d", last, e, want, wantE)
		}
	}
}

// owned fails the test, unless a chunk has just these owners.
func owned(t *testing.T, b *owners.Book, chunk int, want ...api.Owner) {
	t.Helper()
	if l := b.List(chunk); !slices.Equal(l, want) {
		t.Errorf("List(%d) = %v; want %v", chunk, l, want)
	}
	if n := b.Count(chunk); n != len(want) {
		t.Errorf("Count(%d) = %d; want %d", chunk, n, len(want))
	}
}

// has fails the test, unless just these chunks have owners.
func has(t *testing.T, b *owners.Book, want ...int) {
	t.Helper()
	if l := b.Chunks(); !slices.Equal(l, want) {
		t.Errorf("Chunks() = %v; want %v", l, want)
	}
}

func alone(t *testing.T, b *owners.Book, chunk int, o api.Owner, want bool) {
	t.Helper()
	if is := b.Alone(chunk, o); is != want {
		t.Errorf("Alone(%d, %v) = %v", chunk, o, is)
	}
}

// nobodyAlone fails the test, if one of the three has a chunk alone.
func nobodyAlone(t *testing.T, b *owners.Book, chunk int) {
	t.Helper()
	for _, o := range []api.Owner{x(), y(), z(), {}} {
		alone(t, b, chunk, o, false)
	}
}

func was(t *testing.T, b *owners.Book, chunk int, want bool) {
	t.Helper()
	if is := b.Was(chunk); is != want {
		t.Errorf("Was(%d) = %v", chunk, is)
	}
}

func free(t *testing.T, b *owners.Book, want int) {
	t.Helper()
	if chunk := b.Free(); chunk != want {
		t.Errorf("Free() = %d; want %d", chunk, want)
	}
}

// tellsAll fails the test, unless b tells of these chunks and owners what the heaps do.
func tellsAll(t *testing.T, b *owners.Book, h *heaps, chunks []int, list []api.Owner) {
	t.Helper()
	has(t, b, h.chunks()...)
	free(t, b, h.free())
	for _, chunk := range chunks {
		owned(t, b, chunk, of(h.now, chunk)...)
		was(t, b, chunk, len(of(h.last, chunk)) > 0)
		for _, o := range list {
			alone(t, b, chunk, o, h.alone(chunk, o))
		}
	}
}

// P13.1: New, Add, Remove, and who owns what now.

func TestNewBookHasNoOwners(t *testing.T) {
	b := owners.New()
	has(t, b)
	free(t, b, 1)
	for chunk := -2; chunk < 1030; chunk++ {
		owned(t, b, chunk)
		was(t, b, chunk, false)
		nobodyAlone(t, b, chunk)
	}
}

func TestEachNewIsOneOfItsOwn(t *testing.T) {
	a, b := owners.New(), owners.New()
	adds(t, a, 7, x())
	a.Commit()
	adds(t, b, 8, x(), y())
	has(t, a, 7)
	has(t, b, 8)
	owned(t, b, 7)
	was(t, b, 7, false)
	owned(t, a, 8)
	was(t, a, 7, true)
}

func TestAddGivesAChunkAnOwner(t *testing.T) {
	b := owners.New()
	for chunk := 1; chunk <= 1023; chunk++ {
		o := api.Owner{Volume: chunk, Birth: -chunk, At: 2 * chunk}
		owned(t, b, chunk)
		adds(t, b, chunk, o)
		owned(t, b, chunk, o)
	}
	for chunk := 1; chunk <= 1023; chunk++ {
		owned(t, b, chunk, api.Owner{Volume: chunk, Birth: -chunk, At: 2 * chunk})
	}
}

func TestAddOfNoChunk(t *testing.T) {
	b := shared(t, 4, x())
	for _, chunk := range noChunks() {
		says(t, b.Add(chunk, x()), api.ErrArg)
		says(t, b.Add(chunk, api.Owner{}), api.ErrArg)
		owned(t, b, chunk)
	}
	has(t, b, 4)
	free(t, b, 1)
	says(t, b.Add(1, x()), api.OK)
	says(t, b.Add(1023, x()), api.OK)
	has(t, b, 1, 4, 1023)
}

func TestAddOfAnOwnerThatIsThere(t *testing.T) {
	b := shared(t, 4, z(), x(), y())
	for _, o := range []api.Owner{x(), y(), z()} {
		says(t, b.Add(4, o), api.ErrDup)
		owned(t, b, 4, x(), y(), z())
		b.Commit()
	}
	says(t, b.Add(5, x()), api.OK)
	owned(t, b, 5, x())
}

func TestAnOwnerIsAllOfItsNumbers(t *testing.T) {
	o := api.Owner{Volume: 5, Birth: 6, At: 7}
	for _, other := range []api.Owner{{Volume: 4, Birth: 6, At: 7}, {Volume: 5, Birth: 5, At: 7}, {Volume: 5, Birth: 6, At: 6}, {}} {
		b := shared(t, 9, o)
		alone(t, b, 9, o, true)
		alone(t, b, 9, other, false)
		removed(t, false, api.ErrMiss)(b.Remove(9, other))
		adds(t, b, 9, other)
		owned(t, b, 9, other, o)
		b.Commit()
		removed(t, false, api.OK)(b.Remove(9, other))
		alone(t, b, 9, o, false)
	}
}

func TestListRises(t *testing.T) {
	want := rising()
	chance := rand.New(rand.NewSource(13))
	for range 20 {
		b := owners.New()
		for _, i := range chance.Perm(len(want)) {
			adds(t, b, 3, want[i])
		}
		owned(t, b, 3, want...)
		left := slices.Clone(want)
		for len(left) > 1 {
			i := chance.Intn(len(left))
			removed(t, false, api.OK)(b.Remove(3, left[i]))
			left = slices.Delete(left, i, i+1)
		}
		owned(t, b, 3, left...)
		removed(t, true, api.OK)(b.Remove(3, left[0]))
		owned(t, b, 3)
	}
}

func TestListRisesByVolumeThenBirthThenAt(t *testing.T) {
	low := api.Owner{Volume: 1, Birth: 9, At: 9}
	mid := api.Owner{Volume: 2, Birth: 1, At: 9}
	high := api.Owner{Volume: 2, Birth: 2, At: 1}
	top := api.Owner{Volume: 2, Birth: 2, At: 2}
	for _, row := range [][]api.Owner{{low, mid, high, top}, {top, high, mid, low}, {mid, top, low, high}, {high, low, top, mid}} {
		owned(t, shared(t, 1, row...), 1, low, mid, high, top)
	}
}

func TestManyOwnersOfAChunk(t *testing.T) {
	b := owners.New()
	for i := range 20000 {
		adds(t, b, 1023, api.Owner{Volume: i % 16, Birth: i / 16})
	}
	if b.Count(1023) != 20000 || !slices.IsSortedFunc(b.List(1023), func(a, b api.Owner) int {
		if below(a, b) {
			return -1
		}
		return 1
	}) {
		t.Error(b.Count(1023))
	}
}

func TestRemoveTakesAnOwner(t *testing.T) {
	b := shared(t, 4, x(), y(), z())
	removed(t, false, api.OK)(b.Remove(4, y()))
	owned(t, b, 4, x(), z())
	removed(t, false, api.OK)(b.Remove(4, x()))
	owned(t, b, 4, z())
	removed(t, true, api.OK)(b.Remove(4, z()))
	owned(t, b, 4)
	has(t, b)
}

func TestRemoveTellsOfTheLastOwnerOfThatChunkAlone(t *testing.T) {
	b := book(t, x(), 1, 2, 3)
	b.Commit()
	for _, chunk := range []int{2, 1, 3} {
		removed(t, true, api.OK)(b.Remove(chunk, x()))
	}
	adds(t, b, 2, y(), x())
	removed(t, false, api.OK)(b.Remove(2, x()))
	removed(t, true, api.OK)(b.Remove(2, y()))
}

func TestRemoveOfAnOwnerThatIsNotThere(t *testing.T) {
	b := shared(t, 4, x(), z())
	removed(t, false, api.ErrMiss)(b.Remove(4, y()))
	removed(t, false, api.ErrMiss)(b.Remove(5, x()))
	removed(t, false, api.OK)(b.Remove(4, x()))
	removed(t, false, api.ErrMiss)(b.Remove(4, x()))
	owned(t, b, 4, z())
	removed(t, true, api.OK)(b.Remove(4, z()))
	removed(t, false, api.ErrMiss)(b.Remove(4, z()))
	b.Commit()
	removed(t, false, api.ErrMiss)(b.Remove(4, z()))
	for _, chunk := range noChunks() {
		removed(t, false, api.ErrMiss)(b.Remove(chunk, x()))
	}
	has(t, b)
}

func TestRemovedOwnersMayComeAgain(t *testing.T) {
	b := shared(t, 4, x(), y())
	b.Commit()
	for range 3 {
		removed(t, false, api.OK)(b.Remove(4, x()))
		adds(t, b, 4, x())
		owned(t, b, 4, x(), y())
	}
}

func TestChunksRise(t *testing.T) {
	var want []int
	for chunk := 1; chunk <= 1023; chunk += 7 {
		want = append(want, chunk)
	}
	b := owners.New()
	for i := range want {
		chunk := want[len(want)-1-i]
		adds(t, b, chunk, y())
		if chunk > 1 {
			adds(t, b, chunk, x())
		}
	}
	has(t, b, want...)
	removed(t, true, api.OK)(b.Remove(1, y()))
	removed(t, false, api.OK)(b.Remove(want[len(want)-1], y()))
	has(t, b, want[1:]...)
	b.Commit()
	has(t, b, want[1:]...)
}

func TestAnswersAreMemoryOfTheirOwn(t *testing.T) {
	b := shared(t, 4, x(), y(), z())
	adds(t, b, 6, x())
	l, m := b.List(4), b.List(4)
	l[0], l[1] = api.Owner{Volume: 99}, api.Owner{Volume: 98}
	_ = append(l[:1], z(), z(), z(), z(), z())
	owned(t, b, 4, x(), y(), z())
	removed(t, false, api.OK)(b.Remove(4, x()))
	adds(t, b, 4, api.Owner{})
	if !slices.Equal(m, []api.Owner{x(), y(), z()}) {
		t.Error(m)
	}
	c, d := b.Chunks(), b.Chunks()
	c[0] = 77
	_ = append(c[:1], 78, 79)
	adds(t, b, 5, x())
	if !slices.Equal(d, []int{4, 6}) {
		t.Error(d)
	}
	has(t, b, 4, 5, 6)
}

func TestABookThatIsNil(t *testing.T) {
	var b *owners.Book
	for _, chunk := range append(noChunks(), 1, 4, 1023) {
		says(t, b.Add(chunk, x()), api.ErrNil)
		removed(t, false, api.ErrNil)(b.Remove(chunk, x()))
		b.Commit()
		owned(t, b, chunk)
		was(t, b, chunk, false)
		nobodyAlone(t, b, chunk)
	}
	has(t, b)
	free(t, b, 0)
}

// P13.2: Commit, Was, Alone and Free.

func TestWasTellsOfTheLastCommitAlone(t *testing.T) {
	b := shared(t, 4, x())
	was(t, b, 4, false)
	b.Commit()
	was(t, b, 4, true)
	was(t, b, 3, false)
	was(t, b, 5, false)
	removed(t, true, api.OK)(b.Remove(4, x()))
	was(t, b, 4, true)
	adds(t, b, 4, z())
	was(t, b, 4, true)
	removed(t, true, api.OK)(b.Remove(4, z()))
	was(t, b, 4, true)
	b.Commit()
	was(t, b, 4, false)
	adds(t, b, 4, y())
	removed(t, true, api.OK)(b.Remove(4, y()))
	was(t, b, 4, false)
}

func TestWasOfNoChunk(t *testing.T) {
	b := book(t, x(), 1, 4, 1023)
	b.Commit()
	for _, chunk := range noChunks() {
		was(t, b, chunk, false)
		owned(t, b, chunk)
		nobodyAlone(t, b, chunk)
	}
}

func TestAloneOfAChunkThatIsNew(t *testing.T) {
	b := shared(t, 4, x())
	alone(t, b, 4, x(), true)
	alone(t, b, 4, y(), false)
	alone(t, b, 5, x(), false)
	adds(t, b, 4, y())
	nobodyAlone(t, b, 4)
	removed(t, false, api.OK)(b.Remove(4, x()))
	alone(t, b, 4, y(), true)
	alone(t, b, 4, x(), false)
	removed(t, true, api.OK)(b.Remove(4, y()))
	nobodyAlone(t, b, 4)
}

func TestAChunkThatTwoHadIsNotAloneTillTheNextCommit(t *testing.T) {
	b := shared(t, 4, x(), y())
	b.Commit()
	nobodyAlone(t, b, 4)
	removed(t, false, api.OK)(b.Remove(4, x()))
	nobodyAlone(t, b, 4)
	b.Commit()
	alone(t, b, 4, y(), true)
	alone(t, b, 4, x(), false)
}

func TestAChunkThatAnotherHadIsNotAloneTillTheNextCommit(t *testing.T) {
	b := shared(t, 4, x())
	b.Commit()
	removed(t, true, api.OK)(b.Remove(4, x()))
	nobodyAlone(t, b, 4)
	adds(t, b, 4, y())
	nobodyAlone(t, b, 4)
	removed(t, true, api.OK)(b.Remove(4, y()))
	adds(t, b, 4, x())
	alone(t, b, 4, x(), true)
	removed(t, true, api.OK)(b.Remove(4, x()))
	adds(t, b, 4, y())
	b.Commit()
	alone(t, b, 4, y(), true)
	alone(t, b, 4, x(), false)
}

func TestFreeIsTheLowestOfNoOwnerNowAndThen(t *testing.T) {
	b := book(t, x(), 1, 2, 3, 5)
	free(t, b, 4)
	removed(t, true, api.OK)(b.Remove(2, x()))
	free(t, b, 2) // it had none at the last commit
	adds(t, b, 2, y())
	b.Commit()
	free(t, b, 4)
	removed(t, true, api.OK)(b.Remove(1, x()))
	removed(t, true, api.OK)(b.Remove(3, x()))
	free(t, b, 4)
	adds(t, b, 4, x())
	free(t, b, 6)
	b.Commit()
	free(t, b, 1)
	adds(t, b, 1, z())
	free(t, b, 3)
	adds(t, b, 3, z())
	free(t, b, 6)
}

func TestFreeOfABookWithoutRoom(t *testing.T) {
	b := owners.New()
	for chunk := 1; chunk <= 1023; chunk++ {
		free(t, b, chunk)
		adds(t, b, chunk, x())
	}
	free(t, b, 0)
	removed(t, true, api.OK)(b.Remove(1023, x()))
	free(t, b, 1023)
	adds(t, b, 1023, y())
	b.Commit()
	free(t, b, 0)
	removed(t, true, api.OK)(b.Remove(512, x()))
	free(t, b, 0)
	b.Commit()
	free(t, b, 512)
}

func TestCommitChangesNothingNow(t *testing.T) {
	b := shared(t, 4, z(), x())
	adds(t, b, 9, y())
	for range 3 {
		b.Commit()
		has(t, b, 4, 9)
		owned(t, b, 4, x(), z())
		owned(t, b, 9, y())
		was(t, b, 4, true)
		was(t, b, 9, true)
		alone(t, b, 9, y(), true)
		free(t, b, 1)
	}
}

func TestCallsThatAnswerAnErrorChangeNothing(t *testing.T) {
	b, h := owners.New(), &heaps{}
	for _, chunk := range []int{1, 2, 3} {
		adds(t, b, chunk, x())
		h.add(chunk, x())
	}
	b.Commit()
	h.commit()
	adds(t, b, 2, y())
	h.add(2, y())
	removed(t, true, api.OK)(b.Remove(3, x()))
	h.remove(3, x())
	for _, chunk := range noChunks() {
		says(t, b.Add(chunk, z()), api.ErrArg)
		removed(t, false, api.ErrMiss)(b.Remove(chunk, z()))
	}
	for chunk := 1; chunk <= 4; chunk++ {
		removed(t, false, api.ErrMiss)(b.Remove(chunk, z()))
	}
	says(t, b.Add(1, x()), api.ErrDup)
	says(t, b.Add(2, x()), api.ErrDup)
	says(t, b.Add(2, y()), api.ErrDup)
	tellsAll(t, b, h, append(noChunks(), 1, 2, 3, 4), []api.Owner{x(), y(), z()})
}

// P13.3: who is Alone.

func TestAloneStaysTillSomebodyElseIsAdded(t *testing.T) {
	for _, committed := range []bool{false, true} {
		b := shared(t, 4, x())
		if committed {
			b.Commit()
		}
		alone(t, b, 4, x(), true)
		says(t, b.Add(4, x()), api.ErrDup)
		says(t, b.Add(0, y()), api.ErrArg)
		removed(t, false, api.ErrMiss)(b.Remove(4, y()))
		adds(t, b, 3, y())
		adds(t, b, 5, x(), y(), z())
		removed(t, false, api.OK)(b.Remove(5, x()))
		alone(t, b, 4, x(), true)
		b.Commit()
		alone(t, b, 4, x(), true)
		b.Commit()
		alone(t, b, 4, x(), true)
		adds(t, b, 4, y())
		nobodyAlone(t, b, 4)
	}
}

func TestWhomACommitFoundAloneIsAloneBehindIt(t *testing.T) {
	for _, rest := range []api.Owner{x(), y(), z()} {
		b := shared(t, 4, x(), y(), z())
		b.Commit()
		for _, o := range []api.Owner{x(), y(), z()} {
			if o != rest {
				removed(t, false, api.OK)(b.Remove(4, o))
			}
		}
		nobodyAlone(t, b, 4)
		b.Commit()
		for _, o := range []api.Owner{x(), y(), z()} {
			alone(t, b, 4, o, o == rest)
		}
	}
}

func TestRowsOfCalls(t *testing.T) {
	chance := rand.New(rand.NewSource(313))
	list := []api.Owner{x(), y(), z(), {}, {Volume: math.MaxInt}, {Volume: 1, Birth: 1, At: math.MinInt}}
	for range 300 {
		chunks := []int{1, 2, 3, 1022, 1023, 0, 1024, math.MinInt}[:1+chance.Intn(8)]
		b, h := owners.New(), &heaps{}
		for range 150 {
			found := aloneOnes(b, chunks, list)
			except := oneCall(t, chance, b, h, chunks, list)
			stillAlone(t, b, found, except)
			tellsAll(t, b, h, chunks, list)
		}
		if t.Failed() {
			return
		}
	}
}

// oneCall makes some call of both, and fails the test, unless they answer the same. It answers the chunk that got or lost an owner; 0: none did.
func oneCall(t *testing.T, chance *rand.Rand, b *owners.Book, h *heaps, chunks []int, list []api.Owner) int {
	t.Helper()
	chunk, o := chunks[chance.Intn(len(chunks))], list[chance.Intn(len(list))]
	e := api.ErrState
	switch chance.Intn(10) {
	case 0, 1, 2, 3:
		e = b.Add(chunk, o)
		says(t, e, h.add(chunk, o))
	case 4, 5, 6, 7, 8:
		var last bool
		last, e = b.Remove(chunk, o)
		want, wantE := h.remove(chunk, o)
		removed(t, want, wantE)(last, e)
	case 9:
		b.Commit()
		h.commit()
	}
	if e != api.OK {
		return 0
	}
	return chunk
}

// aloneOnes answers who is Alone.
func aloneOnes(b *owners.Book, chunks []int, list []api.Owner) []deed {
	var out []deed
	for _, chunk := range chunks {
		for _, o := range list {
			if b.Alone(chunk, o) {
				out = append(out, deed{chunk, o})
			}
		}
	}
	return out
}

// stillAlone fails the test, unless those are Alone, but for those of a chunk.
func stillAlone(t *testing.T, b *owners.Book, found []deed, except int) {
	t.Helper()
	for _, d := range found {
		if d.chunk != except {
			alone(t, b, d.chunk, d.owner, true)
		}
	}
}
