package mains_test

import (
	"math"
	"math/rand"
	"testing"

	"tierce/api"
	"tierce/mains"
)

// tells fails the test, unless m tells what is wanted.
func tells(t *testing.T, m *mains.Mains, on bool, lives, uses int) {
	t.Helper()
	if m.On() != on || m.Lives() != lives || m.Uses() != uses {
		t.Errorf("On %v, Lives %d, Uses %d; want %v, %d, %d", m.On(), m.Lives(), m.Uses(), on, lives, uses)
	}
}

// used fails the test, unless the uses of m answer what is wanted, one behind the other.
func used(t *testing.T, m *mains.Mains, want ...api.Errno) {
	t.Helper()
	for i, w := range want {
		if e := m.Use(); e != w {
			t.Errorf("use %d: %d; want %d", i, e, w)
		}
	}
}

// away answers power that is away.
func away() *mains.Mains {
	m := mains.New()
	m.Cut()
	return m
}

// P3.1: New.

func TestNewPowerIsThere(t *testing.T) {
	tells(t, mains.New(), true, 1, 0)
}

func TestNewPowerHasNoFuse(t *testing.T) {
	m := mains.New()
	for range 5000 {
		used(t, m, api.OK)
	}
	tells(t, m, true, 1, 5000)
}

func TestEachNewPowerIsOneOfItsOwn(t *testing.T) {
	a, b := mains.New(), mains.New()
	used(t, a, api.OK, api.OK)
	a.Fuse(0)
	a.Cut()
	tells(t, a, false, 1, 2)
	tells(t, b, true, 1, 0)
	used(t, b, api.OK)
	tells(t, a, false, 1, 2)
}

// P3.1: Use.

func TestUseOfPowerThatIsAway(t *testing.T) {
	m := mains.New()
	used(t, m, api.OK)
	m.Cut()
	used(t, m, api.ErrDown, api.ErrDown)
	tells(t, m, false, 1, 1)
}

func TestUseWithAFuse(t *testing.T) {
	m := mains.New()
	m.Fuse(2)
	used(t, m, api.OK, api.OK)
	tells(t, m, true, 1, 2) // it goes with the next use alone
	used(t, m, api.ErrDown)
	tells(t, m, false, 1, 2)
	used(t, m, api.ErrDown)
	tells(t, m, false, 1, 2)
}

// P3.1: Fuse.

func TestAFuseAloneTellsNothing(t *testing.T) {
	for _, n := range []int{0, 1, 2, -1, math.MinInt, math.MaxInt} {
		m := mains.New()
		used(t, m, api.OK)
		m.Fuse(n)
		tells(t, m, true, 1, 1)
	}
}

func TestAFuseOf0(t *testing.T) {
	m := mains.New()
	m.Fuse(0)
	used(t, m, api.ErrDown)
	tells(t, m, false, 1, 0)
}

func TestNoFuseOfNumbersBelow0(t *testing.T) {
	for _, n := range []int{-1, -2, -1000, math.MinInt + 1, math.MinInt} {
		m := mains.New()
		m.Fuse(1)
		m.Fuse(n)
		for range 3000 {
			used(t, m, api.OK)
		}
		tells(t, m, true, 1, 3000)
	}
}

func TestAFuseOfHugeNumbers(t *testing.T) {
	for _, n := range []int{math.MaxInt, math.MaxInt32, math.MaxInt32 + 1} {
		m := mains.New()
		m.Fuse(n)
		for range 3000 {
			used(t, m, api.OK)
		}
		tells(t, m, true, 1, 3000)
	}
}

func TestANewFuseStandsForTheOneAhead(t *testing.T) {
	m := mains.New()
	m.Fuse(3)
	used(t, m, api.OK, api.OK)
	m.Fuse(2)
	used(t, m, api.OK, api.OK)
	m.Fuse(5)
	m.Fuse(1)
	used(t, m, api.OK, api.ErrDown)
	tells(t, m, false, 1, 5)
}

func TestANewFuseForOneThatIsUsedUp(t *testing.T) {
	m := mains.New()
	m.Fuse(1)
	used(t, m, api.OK)
	m.Fuse(2)
	used(t, m, api.OK, api.OK, api.ErrDown)
}

func TestAFuseDoesNotBringPowerBack(t *testing.T) {
	for _, n := range []int{-1, 0, 1, 100} {
		m := away()
		m.Fuse(n)
		used(t, m, api.ErrDown, api.ErrDown)
		tells(t, m, false, 1, 0)
	}
}

// P3.1: Cut.

func TestCut(t *testing.T) {
	m := mains.New()
	used(t, m, api.OK, api.OK, api.OK)
	m.Cut()
	tells(t, m, false, 1, 3)
	m.Cut()
	tells(t, m, false, 1, 3)
}

// P3.1: Come.

func TestComeOfPowerThatIsThere(t *testing.T) {
	m := mains.New()
	m.Come()
	m.Come()
	tells(t, m, true, 1, 0)
	m.Fuse(1)
	m.Come() // the fuse stays
	used(t, m, api.OK)
	m.Come()
	used(t, m, api.ErrDown)
	tells(t, m, false, 1, 1)
}

func TestComeOfPowerThatIsAway(t *testing.T) {
	m := mains.New()
	used(t, m, api.OK)
	for lives := 2; lives < 20; lives++ {
		m.Cut()
		m.Come()
		tells(t, m, true, lives, lives-1)
		m.Come()
		used(t, m, api.OK)
		tells(t, m, true, lives, lives)
	}
}

func TestPowerThatCameHasNoFuse(t *testing.T) {
	for _, n := range []int{0, 1, 2, 7} {
		burnt := mains.New()
		burnt.Fuse(n)
		for range n + 1 {
			burnt.Use()
		}
		cut := mains.New()
		cut.Fuse(n)
		cut.Cut()
		fused := away()
		fused.Fuse(n)
		for _, m := range []*mains.Mains{burnt, cut, fused} {
			m.Come()
			before := m.Uses()
			for range 3000 {
				used(t, m, api.OK)
			}
			tells(t, m, true, 2, before+3000)
		}
	}
}

// P3.1: of nil.

func TestNil(t *testing.T) {
	var m *mains.Mains
	used(t, m, api.ErrNil)
	m.Fuse(-1)
	m.Fuse(0)
	m.Fuse(3)
	m.Cut()
	m.Come()
	used(t, m, api.ErrNil, api.ErrNil)
	tells(t, m, false, 0, 0)
}

// P3.1: any calls, held against the chapter's words.

// words is power as the chapter's words have it.
type words struct {
	there, fused      bool
	left, lives, uses int
}

func (w *words) use() api.Errno {
	switch {
	case !w.there:
		return api.ErrDown
	case w.fused && w.left == 0:
		w.there = false
		return api.ErrDown
	case w.fused:
		w.left--
	}
	w.uses++
	return api.OK
}

func (w *words) come() {
	if !w.there {
		w.there, w.fused = true, false
		w.lives++
	}
}

func TestAnyCalls(t *testing.T) {
	chance := rand.New(rand.NewSource(3))
	for range 200 {
		m, w := mains.New(), words{there: true, lives: 1}
		for range 200 {
			switch chance.Intn(12) {
			case 0:
				n := chance.Intn(9) - 2
				m.Fuse(n)
				w.fused, w.left = n >= 0, n
			case 1:
				m.Cut()
				w.there = false
			case 2, 3:
				m.Come()
				w.come()
			default:
				used(t, m, w.use())
			}
			tells(t, m, w.there, w.lives, w.uses)
		}
	}
}

// P3.2.

func TestJustSoManyUsesBehindAFuse(t *testing.T) {
	for n := range 200 {
		m := mains.New()
		used(t, m, api.OK)
		m.Fuse(n)
		ok := 0
		for range n + 50 {
			if m.Use() == api.OK {
				ok++
			}
		}
		if ok != n {
			t.Errorf("Fuse(%d): %d uses were OK", n, ok)
		}
		tells(t, m, false, 1, 1+n)
		m.Come()
		tells(t, m, true, 2, 1+n)
		used(t, m, api.OK, api.OK)
	}
}
