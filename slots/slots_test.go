package slots_test

import (
	"math"
	"math/rand"
	"slices"
	"testing"

	"tierce/api"
	"tierce/slots"
)

// Helpers: slots by the chapter's words, as two sets.

// sets tells which slots are used now, and which were at the last commit.
type sets struct {
	now, last []bool
}

func setsOf(n int) *sets { return &sets{now: make([]bool, n), last: make([]bool, n)} }

// free answers the free slots, rising.
func (m *sets) free() []int { return m.those(false, false) }

// waits answers the slots that wait, rising.
func (m *sets) waits() []int { return m.those(false, true) }

// used answers the used slots, rising.
func (m *sets) used() []int {
	list := append(m.those(true, false), m.those(true, true)...)
	slices.Sort(list)
	return list
}

func (m *sets) those(now, last bool) []int {
	var list []int
	for i := range m.now {
		if m.now[i] == now && m.last[i] == last {
			list = append(list, i)
		}
	}
	return list
}

func (m *sets) mark(i int) api.Errno {
	if i < 0 || i >= len(m.now) {
		return api.ErrArg
	}
	if m.now[i] || m.last[i] {
		return api.ErrDup
	}
	m.now[i], m.last[i] = true, true
	return api.OK
}

// pick is Take, where kept is 1, and Move, where it is 0.
func (m *sets) pick(kept int) (int, api.Errno) {
	list := m.free()
	if len(list) <= kept {
		return 0, api.ErrSpace
	}
	m.now[list[0]] = true
	return list[0], api.OK
}

func (m *sets) give(i int) api.Errno {
	if i < 0 || i >= len(m.now) {
		return api.ErrArg
	}
	if !m.now[i] {
		return api.ErrMiss
	}
	m.now[i] = false
	return api.OK
}

func (m *sets) commit() { copy(m.last, m.now) }

// Helpers: what is wanted.

// tells fails the test, unless s tells so many slots, free ones, room and waiting ones, and just these used ones.
func tells(t *testing.T, s *slots.Slots, n, free, room, waits int, used ...int) {
	t.Helper()
	if s.Len() != n || s.Free() != free || s.Room() != room || s.Waits() != waits {
		t.Errorf("Len %d, Free %d, Room %d, Waits %d; want %d, %d, %d, %d", s.Len(), s.Free(), s.Room(), s.Waits(), n, free, room, waits)
	}
	if l := s.Used(); !slices.Equal(l, used) {
		t.Errorf("Used %v; want %v", l, used)
	}
}

// tellsAll fails the test, unless s tells what the sets do.
func tellsAll(t *testing.T, s *slots.Slots, m *sets) {
	t.Helper()
	free := len(m.free())
	tells(t, s, len(m.now), free, max(free-1, 0), len(m.waits()), m.used()...)
}

// says fails the test, unless e is want.
func says(t *testing.T, e, want api.Errno) {
	t.Helper()
	if e != want {
		t.Errorf("%d; want %d", e, want)
	}
}

// picked fails the test, unless that slot and that error were answered.
func picked(t *testing.T, want int, wantE api.Errno) func(int, api.Errno) {
	return func(i int, e api.Errno) {
		t.Helper()
		if i != want || e != wantE {
			t.Errorf("%d, %d; want %d, %d", i, e, want, wantE)
		}
	}
}

// marked answers so many slots, of which these are used and bound.
func marked(t *testing.T, n int, list ...int) *slots.Slots {
	t.Helper()
	s := slots.New(n)
	for _, i := range list {
		says(t, s.Mark(i), api.OK)
	}
	return s
}

// P10.1: New, Mark, and what is told.

func TestNewSlotsAreFree(t *testing.T) {
	for n := range 257 {
		tells(t, slots.New(n), n, n, max(n-1, 0), 0)
	}
}

func TestNewTakesTheNearestNumber(t *testing.T) {
	for _, n := range []int{0, -1, -256, math.MinInt, math.MinInt32} {
		tells(t, slots.New(n), 0, 0, 0, 0)
	}
	for _, n := range []int{256, 257, 1000, math.MaxInt32, math.MaxInt} {
		tells(t, slots.New(n), 256, 256, 255, 0)
	}
}

func TestEachNewIsOneOfItsOwn(t *testing.T) {
	a, b := slots.New(3), slots.New(3)
	says(t, a.Mark(1), api.OK)
	tells(t, a, 3, 2, 1, 0, 1)
	tells(t, b, 3, 3, 2, 0)
	picked(t, 0, api.OK)(b.Take())
	tells(t, a, 3, 2, 1, 0, 1)
}

func TestReserveIsOne(t *testing.T) {
	if slots.Reserve != 1 {
		t.Error(slots.Reserve)
	}
}

func TestMarkUsesASlotAndBindsIt(t *testing.T) {
	for i := range 5 {
		s := slots.New(5)
		says(t, s.Mark(i), api.OK)
		tells(t, s, 5, 4, 3, 0, i)
		says(t, s.Give(i), api.OK)
		tells(t, s, 5, 4, 3, 1)
	}
}

func TestMarkOfAllSlotsLeavesNone(t *testing.T) {
	s := slots.New(256)
	var all []int
	for i := range 256 {
		says(t, s.Mark(255-i), api.OK)
		all = append(all, i)
	}
	tells(t, s, 256, 0, 0, 0, all...)
	picked(t, 0, api.ErrSpace)(s.Take())
	picked(t, 0, api.ErrSpace)(s.Move())
}

func TestMarkOfNoSlot(t *testing.T) {
	s := marked(t, 3, 0)
	for _, i := range []int{-1, 3, 4, 256, math.MinInt, math.MaxInt, math.MinInt32, math.MaxInt32} {
		says(t, s.Mark(i), api.ErrArg)
	}
	tells(t, s, 3, 2, 1, 0, 0)
	says(t, slots.New(0).Mark(0), api.ErrArg)
	says(t, slots.New(256).Mark(256), api.ErrArg)
	says(t, slots.New(256).Mark(255), api.OK)
}

func TestMarkOfASlotThatIsNotFree(t *testing.T) {
	s := marked(t, 4, 1, 2)
	picked(t, 0, api.OK)(s.Take())
	says(t, s.Give(2), api.OK)
	for _, i := range []int{0, 1, 2} { // used, used and bound, waiting
		says(t, s.Mark(i), api.ErrDup)
		tells(t, s, 4, 1, 0, 1, 0, 1)
	}
}

func TestMarkOfASlotThatIsFreeAgain(t *testing.T) {
	s := marked(t, 3, 0)
	picked(t, 1, api.OK)(s.Take())
	says(t, s.Give(0), api.OK)
	says(t, s.Give(1), api.OK)
	says(t, s.Mark(1), api.OK)
	s.Commit()
	says(t, s.Mark(0), api.OK)
	tells(t, s, 3, 1, 0, 0, 0, 1)
}

func TestRoomIsAllButOneOfTheFreeSlots(t *testing.T) {
	s := slots.New(4)
	for i := range 4 {
		tells(t, s, 4, 4-i, 3-i, 0, []int{0, 1, 2, 3}[:i]...)
		says(t, s.Mark(i), api.OK)
	}
	tells(t, s, 4, 0, 0, 0, 0, 1, 2, 3)
}

func TestUsedIsMemoryOfItsOwn(t *testing.T) {
	s := marked(t, 4, 1, 3)
	a, b := s.Used(), s.Used()
	a = append(a[:1], 77)
	a[0] = 9
	if !slices.Equal(b, []int{1, 3}) {
		t.Error(b)
	}
	tells(t, s, 4, 2, 1, 0, 1, 3)
}

func TestSlotsThatAreNil(t *testing.T) {
	var s *slots.Slots
	says(t, s.Mark(0), api.ErrNil)
	says(t, s.Mark(-1), api.ErrNil)
	says(t, s.Give(0), api.ErrNil)
	says(t, s.Give(-1), api.ErrNil)
	picked(t, 0, api.ErrNil)(s.Take())
	picked(t, 0, api.ErrNil)(s.Move())
	s.Commit()
	tells(t, s, 0, 0, 0, 0)
}

// P10.2: Take, Move, Give and Commit.

func TestOfTwoSlotsTakeGivesTheFirstAndMoveTheSecond(t *testing.T) {
	s := slots.New(2)
	picked(t, 0, api.OK)(s.Take())
	picked(t, 0, api.ErrSpace)(s.Take())
	tells(t, s, 2, 1, 0, 0, 0)
	picked(t, 1, api.OK)(s.Move())
	tells(t, s, 2, 0, 0, 0, 0, 1)
	picked(t, 0, api.ErrSpace)(s.Move())
	picked(t, 0, api.ErrSpace)(s.Take())
	tells(t, s, 2, 0, 0, 0, 0, 1)
}

func TestTakeAndMoveOfFewSlots(t *testing.T) {
	none, one := slots.New(0), slots.New(1)
	picked(t, 0, api.ErrSpace)(none.Take())
	picked(t, 0, api.ErrSpace)(none.Move())
	picked(t, 0, api.ErrSpace)(one.Take())
	tells(t, one, 1, 1, 0, 0)
	picked(t, 0, api.OK)(one.Move())
	tells(t, one, 1, 0, 0, 0, 0)
}

func TestTakeGivesAllButOneOfTheSlots(t *testing.T) {
	s := slots.New(256)
	for i := range 255 {
		picked(t, i, api.OK)(s.Take())
	}
	picked(t, 0, api.ErrSpace)(s.Take())
	picked(t, 255, api.OK)(s.Move())
	picked(t, 0, api.ErrSpace)(s.Move())
}

func TestTakeAndMoveGiveTheLowestFreeSlot(t *testing.T) {
	s := marked(t, 7, 0, 2, 4)
	picked(t, 1, api.OK)(s.Take())
	picked(t, 3, api.OK)(s.Move())
	says(t, s.Give(1), api.OK)
	says(t, s.Give(0), api.OK) // it waits
	picked(t, 1, api.OK)(s.Move())
	picked(t, 5, api.OK)(s.Take())
	tells(t, s, 7, 1, 0, 1, 1, 2, 3, 4, 5)
}

func TestWhatWasTakenIsNotBound(t *testing.T) {
	s := slots.New(3)
	picked(t, 0, api.OK)(s.Take())
	picked(t, 1, api.OK)(s.Move())
	says(t, s.Give(0), api.OK)
	tells(t, s, 3, 2, 1, 0, 1)
	says(t, s.Give(1), api.OK)
	tells(t, s, 3, 3, 2, 0)
}

func TestWhatWasMarkedAndTakenAgainIsNotBound(t *testing.T) {
	s := marked(t, 2, 0)
	says(t, s.Give(0), api.OK)
	s.Commit()
	picked(t, 0, api.OK)(s.Take())
	says(t, s.Give(0), api.OK)
	tells(t, s, 2, 2, 1, 0)
}

func TestGiveOfNoSlot(t *testing.T) {
	s := marked(t, 3, 0, 1, 2)
	for _, i := range []int{-1, 3, 4, 256, math.MinInt, math.MaxInt, math.MinInt32, math.MaxInt32} {
		says(t, s.Give(i), api.ErrArg)
	}
	tells(t, s, 3, 0, 0, 0, 0, 1, 2)
	says(t, slots.New(0).Give(0), api.ErrArg)
}

func TestGiveOfASlotThatIsNotUsed(t *testing.T) {
	s := marked(t, 3, 0, 1)
	says(t, s.Give(2), api.ErrMiss)
	says(t, s.Give(0), api.OK)
	says(t, s.Give(0), api.ErrMiss)
	tells(t, s, 3, 1, 0, 1, 1)
	s.Commit()
	says(t, s.Give(0), api.ErrMiss)
	picked(t, 0, api.OK)(s.Take())
	says(t, s.Give(0), api.OK)
	says(t, s.Give(0), api.ErrMiss)
	tells(t, s, 3, 2, 1, 0, 1)
}

func TestCommitFreesWhatWaitsAndBindsWhatIsUsed(t *testing.T) {
	s := marked(t, 5, 0, 1)
	picked(t, 2, api.OK)(s.Take())
	picked(t, 3, api.OK)(s.Move())
	says(t, s.Give(0), api.OK)
	tells(t, s, 5, 1, 0, 1, 1, 2, 3)
	s.Commit()
	tells(t, s, 5, 2, 1, 0, 1, 2, 3)
	for waits, i := range []int{3, 1, 2} {
		says(t, s.Give(i), api.OK)
		tells(t, s, 5, 2, 1, waits+1, s.Used()...)
	}
	tells(t, s, 5, 2, 1, 3)
	s.Commit()
	tells(t, s, 5, 5, 4, 0)
}

func TestCommitOfWhatIsCommittedChangesNothing(t *testing.T) {
	s := marked(t, 4, 1)
	for range 3 {
		s.Commit()
		tells(t, s, 4, 3, 2, 0, 1)
	}
	says(t, s.Give(1), api.OK)
	tells(t, s, 4, 3, 2, 1)
}

// P10.3: what the last commit needs is given to nobody.

func TestWhatWaitsIsGivenToNobody(t *testing.T) {
	s := marked(t, 4, 0, 1, 2)
	for i := range 3 {
		says(t, s.Give(i), api.OK)
	}
	tells(t, s, 4, 1, 0, 3)
	picked(t, 0, api.ErrSpace)(s.Take())
	picked(t, 3, api.OK)(s.Move())
	picked(t, 0, api.ErrSpace)(s.Move())
	for i := range 3 {
		says(t, s.Mark(i), api.ErrDup)
		says(t, s.Give(i), api.ErrMiss)
	}
	tells(t, s, 4, 0, 0, 3, 3)
	s.Commit()
	picked(t, 0, api.OK)(s.Take())
	picked(t, 1, api.OK)(s.Take())
	picked(t, 0, api.ErrSpace)(s.Take())
	picked(t, 2, api.OK)(s.Move())
	tells(t, s, 4, 0, 0, 0, 0, 1, 2, 3)
}

func TestRowsOfCalls(t *testing.T) {
	r := rand.New(rand.NewSource(10))
	for range 400 {
		n := r.Intn(9)
		if r.Intn(20) == 0 {
			n = 256
		}
		s, m := slots.New(n), setsOf(n)
		for range 200 {
			oneCall(t, r, s, m)
			tellsAll(t, s, m)
		}
		if t.Failed() {
			return
		}
	}
}

// oneCall makes some call of both, and fails the test, unless they answer the same.
func oneCall(t *testing.T, r *rand.Rand, s *slots.Slots, m *sets) {
	t.Helper()
	i := r.Intn(len(m.now)+4) - 2
	was := slices.Clone(m.last)
	switch r.Intn(9) {
	case 0, 1:
		says(t, s.Mark(i), m.mark(i))
	case 2, 3:
		nobodys(t, was, s.Take, func() (int, api.Errno) { return m.pick(1) })
	case 4:
		nobodys(t, was, s.Move, func() (int, api.Errno) { return m.pick(0) })
	case 5, 6, 7:
		says(t, s.Give(i), m.give(i))
	case 8:
		s.Commit()
		m.commit()
	}
}

// nobodys fails the test, unless call answers what want does, and that is no slot that was used at the last commit.
func nobodys(t *testing.T, last []bool, call, want func() (int, api.Errno)) {
	t.Helper()
	wantI, wantE := want()
	i, e := call()
	picked(t, wantI, wantE)(i, e)
	if e == api.OK && 0 <= i && i < len(last) && last[i] {
		t.Errorf("%d was used at the last commit", i)
	}
}
