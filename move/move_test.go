package move_test

import (
	"math"
	"math/rand"
	"testing"

	"tierce/api"
	"tierce/move"
)

// Numbers of the document, written out, so that these tests hold the limits too.
const (
	slow      = 0
	fast      = 1
	lastChunk = 1023
	lastSlot  = 255

	copying  = 1
	flushing = 2
	mapping  = 3
	done     = 4
)

// Helpers: layer 17 by the chapter's words.

// behind answers the phase behind that one.
func behind(phase int) int {
	switch phase {
	case copying:
		return flushing
	case flushing:
		return mapping
	case mapping:
		return done
	}
	return phase
}

// stale answers the phase of what was written in that one.
func stale(phase int) int {
	switch phase {
	case flushing, mapping:
		return copying
	}
	return phase
}

// steps answers how many steps are left in that phase.
func steps(phase int) int {
	switch phase {
	case copying:
		return 3
	case flushing:
		return 2
	case mapping:
		return 1
	}
	return 0
}

// can tells whether a chunk can be on such a way.
func can(chunk int, from, to api.Spot) bool {
	if chunk < 1 || chunk > lastChunk {
		return false
	}
	for _, s := range []api.Spot{from, to} {
		if s.Slot < 0 || s.Slot > lastSlot {
			return false
		}
	}
	return from.Tier == slow && to.Tier == fast || from.Tier == fast && to.Tier == slow
}

// Helpers: numbers and moves.

// ends answers numbers that are no chunk, slot, tier or phase, the ends of their type too.
func ends() []int {
	return []int{-1, -2, -256, -1023, -1 << 32, 1 - 1<<32, 1 << 32, 1<<32 + 1, 1<<32 + 2, 1<<32 + 4, math.MinInt32, math.MaxInt32, math.MinInt, math.MinInt + 1, math.MaxInt - 1, math.MaxInt}
}

// phases answers phases of all kinds: those that there are, those beside them, and the ends.
func phases() []int {
	return append([]int{0, copying, flushing, mapping, done, 5, 6, 7, 255, 256, 257, 258}, ends()...)
}

// someSpots answers spots that can be and spots that can't.
func someSpots() []api.Spot {
	var out []api.Spot
	for _, tier := range []int{slow, fast, -1, 2, 256, 257, 1 << 32, 1<<32 + 1, math.MinInt, math.MaxInt} {
		for _, slot := range []int{0, 1, 254, lastSlot, -1, lastSlot + 1, lastSlot + 2, 1 << 32, math.MinInt, math.MaxInt} {
			out = append(out, api.Spot{Tier: tier, Slot: slot})
		}
	}
	return out
}

// anyOf answers one of a list.
func anyOf(chance *rand.Rand, list []int) int { return list[chance.Intn(len(list))] }

// anyMove answers a move of which each field may be anything.
func anyMove(chance *rand.Rand) move.Move {
	some := append(phases(), lastSlot, lastChunk, lastChunk+1)
	one := func() int { return anyOf(chance, some) }
	return move.Move{Chunk: one(), From: api.Spot{Tier: one(), Slot: one()}, To: api.Spot{Tier: one(), Slot: one()}, Phase: one()}
}

// with answers the same move in that phase.
func with(m move.Move, phase int) move.Move {
	m.Phase = phase
	return m
}

// Helpers: what is wanted.

// begins fails the test, unless that is a way that a chunk can begin; it answers the move.
func begins(t *testing.T, chunk int, from, to api.Spot) move.Move {
	t.Helper()
	want := move.Move{Chunk: chunk, From: from, To: to, Phase: copying}
	m, e := move.New(chunk, from, to)
	if m != want || e != api.OK {
		t.Fatalf("New(%d, %v, %v) = %v, %d; want %v, OK", chunk, from, to, m, e, want)
	}
	return m
}

// beginsNot fails the test, unless that is none.
func beginsNot(t *testing.T, chunk int, from, to api.Spot) {
	t.Helper()
	if m, e := move.New(chunk, from, to); m != (move.Move{}) || e != api.ErrArg {
		t.Errorf("New(%d, %v, %v) = %v, %d; want none, ErrArg", chunk, from, to, m, e)
	}
}

// either fails the test, unless New answers as the chapter's words have it.
func either(t *testing.T, chunk int, from, to api.Spot) {
	t.Helper()
	if can(chunk, from, to) {
		begins(t, chunk, from, to)
	} else {
		beginsNot(t, chunk, from, to)
	}
}

// holds fails the test, unless all methods answer of that move as the chapter's words have it, and leave it as it was.
func holds(t *testing.T, m move.Move) {
	t.Helper()
	was := m
	if got, want := m.Next(), with(m, behind(m.Phase)); got != want {
		t.Errorf("%v.Next() = %v; want %v", m, got, want)
	}
	if got, want := m.Stale(), with(m, stale(m.Phase)); got != want {
		t.Errorf("%v.Stale() = %v; want %v", m, got, want)
	}
	if got, want := m.Steps(), steps(m.Phase); got != want {
		t.Errorf("%v.Steps() = %d; want %d", m, got, want)
	}
	if got, want := m.Busy(), steps(m.Phase) > 0; got != want {
		t.Errorf("%v.Busy() = %v; want %v", m, got, want)
	}
	if m != was {
		t.Errorf("%v was %v", m, was)
	}
}

// P17.1: New.

func TestTheNumbers(t *testing.T) {
	if move.Copy != copying || move.Flush != flushing || move.Remap != mapping || move.Done != done {
		t.Error(move.Copy, move.Flush, move.Remap, move.Done)
	}
	if api.Slow != slow || api.Fast != fast || api.MaxChunks != lastChunk || api.MaxSlots-1 != lastSlot {
		t.Error(api.Slow, api.Fast, api.MaxChunks, api.MaxSlots)
	}
}

func TestNewUpAndDown(t *testing.T) {
	down, up := api.Spot{Tier: slow, Slot: 7}, api.Spot{Tier: fast, Slot: 200}
	holds(t, begins(t, 9, down, up))
	holds(t, begins(t, 9, up, down))
	holds(t, begins(t, 9, api.Spot{Tier: slow, Slot: 3}, api.Spot{Tier: fast, Slot: 3})) // slots of unlike tiers are unlike
}

func TestNewOfEachChunk(t *testing.T) {
	from, to := api.Spot{Tier: fast, Slot: 2}, api.Spot{Tier: slow, Slot: 3}
	for chunk := -1100; chunk <= 3000; chunk++ {
		either(t, chunk, from, to)
		either(t, chunk, to, from)
	}
	for _, chunk := range ends() {
		beginsNot(t, chunk, from, to)
	}
	begins(t, 1, from, to)
	begins(t, lastChunk, from, to)
	beginsNot(t, 0, from, to)
	beginsNot(t, lastChunk+1, from, to)
}

func TestNewOfEachSlot(t *testing.T) {
	for slot := -300; slot <= 600; slot++ {
		for _, tier := range []int{slow, fast} {
			either(t, 5, api.Spot{Tier: tier, Slot: slot}, api.Spot{Tier: 1 - tier, Slot: 4})
			either(t, 5, api.Spot{Tier: tier, Slot: 4}, api.Spot{Tier: 1 - tier, Slot: slot})
			either(t, 5, api.Spot{Tier: tier, Slot: slot}, api.Spot{Tier: 1 - tier, Slot: slot})
		}
	}
	for _, slot := range ends() {
		beginsNot(t, 5, api.Spot{Tier: slow, Slot: slot}, api.Spot{Tier: fast})
		beginsNot(t, 5, api.Spot{Tier: slow}, api.Spot{Tier: fast, Slot: slot})
		beginsNot(t, 5, api.Spot{Tier: fast, Slot: slot}, api.Spot{Tier: slow})
		beginsNot(t, 5, api.Spot{Tier: fast}, api.Spot{Tier: slow, Slot: slot})
	}
}

func TestNewOfAllSlots(t *testing.T) {
	for i := range lastSlot + 1 {
		for j := range lastSlot + 1 {
			begins(t, 1+(i+j)%lastChunk, api.Spot{Tier: slow, Slot: i}, api.Spot{Tier: fast, Slot: j})
			begins(t, 1+(i+j)%lastChunk, api.Spot{Tier: fast, Slot: i}, api.Spot{Tier: slow, Slot: j})
		}
	}
}

func TestNewOfEachPairOfTiers(t *testing.T) {
	tiers := append([]int{slow, fast, 2, 3, 255, 256, 257}, ends()...)
	for _, from := range tiers {
		for _, to := range tiers {
			either(t, 5, api.Spot{Tier: from, Slot: 1}, api.Spot{Tier: to, Slot: 2})
			either(t, 5, api.Spot{Tier: from, Slot: 1}, api.Spot{Tier: to, Slot: 1})
		}
	}
	beginsNot(t, 5, api.Spot{Tier: slow, Slot: 1}, api.Spot{Tier: slow, Slot: 2}) // from a tier to itself
	beginsNot(t, 5, api.Spot{Tier: fast, Slot: 1}, api.Spot{Tier: fast, Slot: 2})
	beginsNot(t, 5, api.Spot{Tier: -1}, api.Spot{Tier: 2}) // their sum is that of both tiers
	beginsNot(t, 5, api.Spot{Tier: fast}, api.Spot{Tier: 2})
	beginsNot(t, 5, api.Spot{Tier: -1}, api.Spot{Tier: slow})
	beginsNot(t, 5, api.Spot{Tier: 2}, api.Spot{Tier: 3})
}

func TestNewOfAnySpots(t *testing.T) {
	for _, from := range someSpots() {
		for _, to := range someSpots() {
			for _, chunk := range []int{1, lastChunk, 0, lastChunk + 1, math.MinInt} {
				either(t, chunk, from, to)
			}
		}
	}
}

// P17.1: Next, Stale, Steps and Busy.

func TestEachPhase(t *testing.T) {
	from, to := api.Spot{Tier: fast, Slot: 255}, api.Spot{Tier: slow, Slot: 9}
	for _, phase := range phases() {
		holds(t, move.Move{Chunk: 1023, From: from, To: to, Phase: phase})
		holds(t, move.Move{Phase: phase}) // the phase alone tells
	}
	for phase := -1000; phase <= 1000; phase++ {
		holds(t, move.Move{Chunk: 6, From: to, To: from, Phase: phase})
	}
}

func TestNextOfEachPhase(t *testing.T) {
	for phase, want := range map[int]int{0: 0, 1: 2, 2: 3, 3: 4, 4: 4, 5: 5, -1: -1} {
		if m := (move.Move{Chunk: 6, Phase: phase}).Next(); m != (move.Move{Chunk: 6, Phase: want}) {
			t.Errorf("Next of the phase %d is %v; want %d", phase, m, want)
		}
	}
}

func TestStaleOfEachPhase(t *testing.T) {
	for phase, want := range map[int]int{0: 0, 1: 1, 2: 1, 3: 1, 4: 4, 5: 5, -1: -1} {
		if m := (move.Move{Chunk: 6, Phase: phase}).Stale(); m != (move.Move{Chunk: 6, Phase: want}) {
			t.Errorf("Stale of the phase %d is %v; want %d", phase, m, want)
		}
	}
}

func TestStepsOfEachPhase(t *testing.T) {
	for phase, want := range map[int]int{0: 0, 1: 3, 2: 2, 3: 1, 4: 0, 5: 0, -1: 0, math.MinInt: 0, math.MaxInt: 0} {
		m := move.Move{Chunk: 6, Phase: phase}
		if m.Steps() != want || m.Busy() != (want > 0) {
			t.Errorf("Steps and Busy of the phase %d are %d, %v; want %d", phase, m.Steps(), m.Busy(), want)
		}
	}
}

func TestTheZeroMove(t *testing.T) {
	var m move.Move
	if m.Next() != m || m.Stale() != m || m.Steps() != 0 || m.Busy() {
		t.Error(m.Next(), m.Stale(), m.Steps(), m.Busy())
	}
}

func TestMovesOfAnyKind(t *testing.T) {
	chance := rand.New(rand.NewSource(17))
	for range 100000 {
		m := anyMove(chance)
		holds(t, m)
		either(t, m.Chunk, m.From, m.To)
	}
}

// Steps are how many Nexts there are till Done.
func TestStepsAreNexts(t *testing.T) {
	for _, phase := range []int{copying, flushing, mapping, done} {
		m, n := move.Move{Chunk: 6, Phase: phase}, 0
		want := m.Steps()
		for ; m.Phase != done && n < 9; n++ {
			m = m.Next()
		}
		if n != want {
			t.Errorf("Steps of the phase %d is %d, but Done is %d Nexts away", phase, want, n)
		}
	}
}

// P17.2: a chunk's whole way.

func TestThreeNexts(t *testing.T) {
	m := begins(t, 9, api.Spot{Tier: slow, Slot: 7}, api.Spot{Tier: fast, Slot: 8})
	for i, phase := range []int{copying, flushing, mapping, done, done, done} {
		if m.Phase != phase || m.Steps() != max(3-i, 0) || m.Busy() != (i < 3) {
			t.Errorf("behind %d Nexts it is %v, with %d steps, busy %v; want the phase %d", i, m, m.Steps(), m.Busy(), phase)
		}
		m = m.Next()
	}
}

func TestTheExample(t *testing.T) {
	m := begins(t, 9, api.Spot{Tier: slow, Slot: 7}, api.Spot{Tier: fast, Slot: 8})
	again := m.Next().Stale()
	if again.Steps() != 3 || again != m {
		t.Error(again, again.Steps())
	}
}

// A Stale at each place of the way, and at each two of them: three steps from there, if it isn't Done.
func TestStaleAnywhere(t *testing.T) {
	m := begins(t, 1023, api.Spot{Tier: fast, Slot: 255}, api.Spot{Tier: slow})
	for i := range 4 {
		for j := range 4 {
			at := m
			for range i {
				at = at.Next()
			}
			at = at.Stale()
			if want := with(m, []int{copying, copying, copying, done}[i]); at != want || at.Stale() != want {
				t.Errorf("Stale behind %d Nexts is %v, and again %v; want %v", i, at, at.Stale(), want)
			}
			for range j {
				at = at.Next()
			}
			at = at.Stale().Next().Next().Next()
			if at != with(m, done) {
				t.Errorf("three Nexts behind a Stale at %d and %d: %v", i, j, at)
			}
		}
	}
}

// Rows of steps: it is Done as soon as it wasn't Stale for three Nexts, and stays so.
func TestRowsOfSteps(t *testing.T) {
	chance := rand.New(rand.NewSource(172))
	for range 2000 {
		first := begins(t, 1+chance.Intn(lastChunk), api.Spot{Tier: slow, Slot: chance.Intn(256)}, api.Spot{Tier: fast, Slot: chance.Intn(256)})
		m, row := first, 0 // how many Nexts since the last Stale
		for range 30 {
			if chance.Intn(3) == 0 {
				m = m.Stale()
				if row < 3 {
					row = 0
				}
			} else {
				m = m.Next()
				row = min(row+1, 3)
			}
			if want := with(first, []int{copying, flushing, mapping, done}[row]); m != want || m.Steps() != 3-row || m.Busy() != (row < 3) {
				t.Fatalf("behind %d Nexts without a Stale it is %v, with %d steps, busy %v; want %v", row, m, m.Steps(), m.Busy(), want)
			}
			holds(t, m)
		}
	}
}
