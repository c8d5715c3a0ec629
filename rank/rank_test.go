package rank_test

import (
	"math"
	"math/big"
	"math/rand"
	"slices"
	"strconv"
	"testing"

	"tierce/api"
	"tierce/rank"
)

// Numbers of the document, written out, so that these tests hold the limits too.
const (
	slow = 0
	fast = 1
	warm = 2 // the least level of what is promoted
	top  = 7 // the greatest level
)

// Helpers: layer 16 by the chapter's words.

// level answers a heat's level.
func level(heat int) int {
	if heat <= 0 {
		return 0
	}
	k := 0
	for k < 62 && 1<<(k+1) <= heat {
		k++
	}
	return min(k+1, top)
}

// at answers the place of that pick among n, by numbers that have no end.
func at(pick, n int) int {
	p := big.NewInt(int64(pick))
	if pick < 0 {
		p.Add(p, new(big.Int).Lsh(big.NewInt(1), strconv.IntSize))
	}
	return int(p.Mod(p, big.NewInt(int64(n))).Int64())
}

// among answers the items at these places of a list, parted by their levels.
func among(list []rank.Item, places []int) [top + 1][]rank.Item {
	var out [top + 1][]rank.Item
	for _, i := range places {
		l := level(list[i].Heat)
		out[l] = append(out[l], list[i])
	}
	return out
}

// up answers the items of which one is promoted.
func up(list []rank.Item) []rank.Item {
	var pinned []rank.Item
	var others []int
	for i, x := range list {
		if x.Tier != slow || x.Busy {
			continue
		}
		if x.Pinned {
			pinned = append(pinned, x)
		} else {
			others = append(others, i)
		}
	}
	if len(pinned) > 0 {
		return pinned
	}
	by := among(list, others)
	for l := top; l >= warm; l-- {
		if len(by[l]) > 0 {
			return by[l]
		}
	}
	return nil
}

// down answers the items of which one is demoted.
func down(list []rank.Item) []rank.Item {
	var can []int
	for i, x := range list {
		if x.Tier == fast && !x.Busy && !x.Pinned {
			can = append(can, i)
		}
	}
	for _, items := range among(list, can) {
		if len(items) > 0 {
			return items
		}
	}
	return nil
}

// Helpers: lists.

// picks answers picks of all kinds.
func picks() []int {
	return []int{0, 1, 2, 3, 4, 5, 6, 7, 11, 1000, 1 << 31, 1 << 32, 1<<32 + 1, math.MaxInt - 1, math.MaxInt, -1, -2, -3, -4, -5, -6, -7, -1 << 32, 1 - 1<<32, math.MinInt32, math.MinInt + 1, math.MinInt}
}

// noRooms answers numbers of slots that are no room.
func noRooms() []int {
	return []int{0, -1, -2, -1 << 32, 1 - 1<<32, math.MinInt32, math.MinInt + 1, math.MinInt}
}

// rooms answers numbers of slots that are room.
func rooms() []int {
	return []int{1, 2, 255, 1 << 32, math.MaxInt}
}

// manyHeats answers heats of all kinds.
func manyHeats() []int {
	return []int{0, 1, 2, 3, 4, 5, 7, 8, 15, 16, 31, 32, 63, 64, 65, 127, 128, 1 << 20, 1 << 32, math.MaxInt, -1, -64, math.MinInt}
}

// anyList answers a list of n items of any kinds that rises.
func anyList(chance *rand.Rand, n int) []rank.Item {
	var list []rank.Item
	heats := manyHeats()
	busy, pinned := 1+chance.Intn(6), 1+chance.Intn(6)
	for _, chunk := range rising(chance, n) {
		list = append(list, rank.Item{
			Chunk:  chunk,
			Heat:   heats[chance.Intn(len(heats))],
			Tier:   chance.Intn(2),
			Pinned: chance.Intn(pinned) == 1,
			Busy:   chance.Intn(busy) == 1,
		})
	}
	return list
}

// rising answers n chunks that rise.
func rising(chance *rand.Rand, n int) []int {
	chunks := chance.Perm(api.MaxChunks)[:n]
	for i := range chunks {
		chunks[i]++
	}
	slices.Sort(chunks)
	return chunks
}

// anyItem answers an item of which each field may be anything.
func anyItem(chance *rand.Rand) rank.Item {
	some := append(manyHeats(), -2, 6, 1023, 1024)
	one := func() int { return some[chance.Intn(len(some))] }
	tier := one()
	if chance.Intn(3) > 0 {
		tier = chance.Intn(2)
	}
	return rank.Item{Chunk: one(), Heat: one(), Tier: tier, Pinned: chance.Intn(4) == 0, Busy: chance.Intn(4) == 0}
}

// Helpers: what is wanted.

// holds fails the test, unless all is answered of a list that rises as the chapter's words have it.
func holds(t *testing.T, list []rank.Item, room, pick int) {
	t.Helper()
	var u, d rank.Item
	if l := up(list); len(l) > 0 {
		u = l[at(pick, len(l))]
	}
	if l := down(list); len(l) > 0 {
		d = l[at(pick, len(l))]
	}
	isUp(t, list, pick, u.Chunk)
	isDown(t, list, pick, d.Chunk)
	switch {
	case u.Chunk == 0:
		stays(t, list, room, pick)
	case room > 0:
		moves(t, list, room, pick, u.Chunk, fast)
	case d.Chunk == 0:
		stays(t, list, room, pick)
	case u.Pinned || level(u.Heat) > level(d.Heat):
		moves(t, list, room, pick, d.Chunk, slow)
	default:
		stays(t, list, room, pick)
	}
}

func isUp(t *testing.T, list []rank.Item, pick, want int) {
	t.Helper()
	if c := rank.Up(list, pick); c != want {
		t.Errorf("Up(%v, %d) = %d; want %d", list, pick, c, want)
	}
}

func isDown(t *testing.T, list []rank.Item, pick, want int) {
	t.Helper()
	if c := rank.Down(list, pick); c != want {
		t.Errorf("Down(%v, %d) = %d; want %d", list, pick, c, want)
	}
}

// moves fails the test, unless that chunk moves to that tier.
func moves(t *testing.T, list []rank.Item, room, pick, chunk, tier int) {
	t.Helper()
	if c, to, ok := rank.Wants(list, room, pick); c != chunk || to != tier || !ok {
		t.Errorf("Wants(%v, %d, %d) = %d, %d, %v; want %d, %d, true", list, room, pick, c, to, ok, chunk, tier)
	}
}

// stays fails the test, unless no chunk moves.
func stays(t *testing.T, list []rank.Item, room, pick int) {
	t.Helper()
	if c, to, ok := rank.Wants(list, room, pick); c != 0 || to != 0 || ok {
		t.Errorf("Wants(%v, %d, %d) = %d, %d, %v; want 0, 0, false", list, room, pick, c, to, ok)
	}
}

// P16.1: Level.

func TestTheExamples(t *testing.T) {
	for heat, want := range map[int]int{1: 1, 2: 2, 3: 2, 64: 7, 65: 7, 128: 7, 1 << 20: 7, 1 << 32: 7, math.MaxInt: 7} {
		if l := rank.Level(heat); l != want {
			t.Errorf("Level(%d) = %d; want %d", heat, l, want)
		}
	}
}

func TestLevelOfEachHeat(t *testing.T) {
	for heat := -300; heat <= 2000; heat++ {
		if l := rank.Level(heat); l != level(heat) {
			t.Errorf("Level(%d) = %d; want %d", heat, l, level(heat))
		}
	}
}

func TestLevelAboutEachPowerOfTwo(t *testing.T) {
	for k := range strconv.IntSize - 1 {
		for _, heat := range []int{1<<k - 1, 1 << k, 1<<k + 1} {
			if l := rank.Level(heat); l != level(heat) {
				t.Errorf("Level(%d) = %d; want %d", heat, l, level(heat))
			}
			if l := rank.Level(-heat); l != 0 && heat > 0 {
				t.Errorf("Level(%d) = %d; want 0", -heat, l)
			}
		}
	}
}

func TestLevelOfNoHeat(t *testing.T) {
	for _, heat := range []int{0, -1, -2, -64, -1 << 32, 1 - 1<<32, math.MinInt32, math.MinInt + 1, math.MinInt} {
		if l := rank.Level(heat); l != 0 {
			t.Errorf("Level(%d) = %d; want 0", heat, l)
		}
	}
}

func TestTheNumbers(t *testing.T) {
	if rank.Warm != warm || api.MaxRank-1 != top || api.Slow != slow || api.Fast != fast {
		t.Error(rank.Warm, api.MaxRank, api.Slow, api.Fast)
	}
}

// P16.1: Up.

func TestUpOfOne(t *testing.T) {
	for _, heat := range manyHeats() {
		want := 0
		if heat >= 2 {
			want = 9
		}
		for _, pick := range picks() {
			isUp(t, []rank.Item{{Chunk: 9, Heat: heat}}, pick, want)
			isUp(t, []rank.Item{{Chunk: 9, Heat: heat, Pinned: true}}, pick, 9)
			isUp(t, []rank.Item{{Chunk: 9, Heat: heat, Busy: true}}, pick, 0)
			isUp(t, []rank.Item{{Chunk: 9, Heat: heat, Pinned: true, Busy: true}}, pick, 0)
			isUp(t, []rank.Item{{Chunk: 9, Heat: heat, Tier: fast}}, pick, 0)
			isUp(t, []rank.Item{{Chunk: 9, Heat: heat, Tier: fast, Pinned: true}}, pick, 0)
		}
	}
}

func TestUpIsOfTheGreatestLevelNotTheGreatestHeat(t *testing.T) {
	list := []rank.Item{{Chunk: 2, Heat: 15}, {Chunk: 3, Heat: 8}, {Chunk: 7, Heat: 7}, {Chunk: 8, Heat: 9}, {Chunk: 9, Heat: 1}}
	for pick, want := range []int{2, 3, 8, 2, 3, 8, 2} {
		isUp(t, list, pick, want)
	}
	hot := []rank.Item{{Chunk: 2, Heat: 64}, {Chunk: 3, Heat: 1 << 20}, {Chunk: 4, Heat: 63}}
	for pick, want := range []int{2, 3, 2, 3} {
		isUp(t, hot, pick, want)
	}
}

func TestUpOfWhatIsWarmAndWhatIsNot(t *testing.T) {
	list := []rank.Item{{Chunk: 2, Heat: 1}, {Chunk: 3, Heat: 1}, {Chunk: 4}}
	for _, pick := range picks() {
		isUp(t, list, pick, 0)
	}
	list[1].Heat = 2
	for _, pick := range picks() {
		isUp(t, list, pick, 3)
	}
}

func TestUpOfPinnedOnesAheadOfAll(t *testing.T) {
	list := []rank.Item{
		{Chunk: 1, Heat: 1 << 20}, {Chunk: 2, Heat: 64, Pinned: true}, {Chunk: 3, Heat: 64}, {Chunk: 4, Pinned: true},
		{Chunk: 5, Heat: 99, Pinned: true, Busy: true}, {Chunk: 6, Heat: 99, Tier: fast, Pinned: true}, {Chunk: 7, Heat: -4, Pinned: true},
	}
	for pick, want := range []int{2, 4, 7, 2, 4, 7, 2} { // of any heats
		isUp(t, list, pick, want)
	}
	list[1].Busy, list[3].Busy, list[6].Tier = true, true, fast
	for pick, want := range []int{1, 3, 1} {
		isUp(t, list, pick, want)
	}
}

func TestUpOverWhatIsBusyOrFast(t *testing.T) {
	list := []rank.Item{{Chunk: 1, Heat: 99, Busy: true}, {Chunk: 2, Heat: 99, Tier: fast}, {Chunk: 3, Heat: 4}, {Chunk: 5, Heat: 5}, {Chunk: 6, Heat: 3}}
	for pick, want := range []int{3, 5, 3, 5} {
		isUp(t, list, pick, want)
	}
}

// P16.1: Down.

func TestDownOfOne(t *testing.T) {
	for _, heat := range manyHeats() {
		for _, pick := range picks() {
			isDown(t, []rank.Item{{Chunk: 9, Heat: heat, Tier: fast}}, pick, 9)
			isDown(t, []rank.Item{{Chunk: 9, Heat: heat, Tier: fast, Pinned: true}}, pick, 0)
			isDown(t, []rank.Item{{Chunk: 9, Heat: heat, Tier: fast, Busy: true}}, pick, 0)
			isDown(t, []rank.Item{{Chunk: 9, Heat: heat, Tier: fast, Pinned: true, Busy: true}}, pick, 0)
			isDown(t, []rank.Item{{Chunk: 9, Heat: heat}}, pick, 0)
		}
	}
}

func TestDownIsOfTheLeastLevelNotTheLeastHeat(t *testing.T) {
	list := []rank.Item{
		{Chunk: 2, Heat: 15, Tier: fast}, {Chunk: 3, Heat: 8, Tier: fast}, {Chunk: 7, Heat: 16, Tier: fast}, {Chunk: 8, Heat: 9, Tier: fast},
		{Chunk: 9, Tier: fast, Busy: true}, {Chunk: 10, Tier: fast, Pinned: true}, {Chunk: 11},
	}
	for pick, want := range []int{2, 3, 8, 2, 3, 8, 2} {
		isDown(t, list, pick, want)
	}
	cold := []rank.Item{{Chunk: 2, Tier: fast}, {Chunk: 3, Heat: 1, Tier: fast}, {Chunk: 4, Heat: math.MinInt, Tier: fast}}
	for pick, want := range []int{2, 4, 2, 4} {
		isDown(t, cold, pick, want)
	}
	hot := []rank.Item{{Chunk: 2, Heat: 64, Tier: fast}, {Chunk: 3, Heat: math.MaxInt, Tier: fast}}
	for pick, want := range []int{2, 3, 2} {
		isDown(t, hot, pick, want)
	}
}

// P16.1: picks.

func TestPicksOfAnySign(t *testing.T) {
	for n := 1; n <= 40; n++ {
		var ups, pinned, downs []rank.Item
		for i := range n {
			ups = append(ups, rank.Item{Chunk: 10 + 3*i, Heat: 4 + i%4})
			pinned = append(pinned, rank.Item{Chunk: 10 + 3*i, Heat: i, Pinned: true})
			downs = append(downs, rank.Item{Chunk: 10 + 3*i, Heat: 4 + i%4, Tier: fast})
		}
		for _, pick := range picks() {
			want := 10 + 3*at(pick, n)
			isUp(t, ups, pick, want)
			isUp(t, pinned, pick, want)
			isDown(t, downs, pick, want)
		}
	}
}

func TestPicksBelowNothing(t *testing.T) {
	if strconv.IntSize != 64 {
		t.Skip("these are picks of 64 bits")
	}
	list := []rank.Item{{Chunk: 1, Heat: 9}, {Chunk: 2, Heat: 9}, {Chunk: 3, Heat: 9}}
	for pick, want := range map[int]int{-1: 1, -2: 3, -3: 2, -4: 1, math.MinInt: 3, math.MaxInt: 2} { // 2^64 - 1 is three times something
		isUp(t, list, pick, want)
	}
}

// P16.1 and P16.2: no items, and items of no tier.

func TestListsOfNothing(t *testing.T) {
	for _, list := range [][]rank.Item{nil, {}, make([]rank.Item, 0, 4)} {
		for _, pick := range picks() {
			for _, room := range append(noRooms(), rooms()...) {
				holds(t, list, room, pick)
			}
			isUp(t, list, pick, 0)
			isDown(t, list, pick, 0)
		}
	}
}

func TestItemsOfNoTier(t *testing.T) {
	for _, tier := range []int{-1, 2, 3, 256, 1 << 32, 1<<32 + 1, -1 << 32, math.MinInt, math.MaxInt} {
		for _, pinned := range []bool{false, true} {
			list := []rank.Item{{Chunk: 4, Heat: 99, Tier: tier, Pinned: pinned}}
			isUp(t, list, 0, 0)
			isDown(t, list, 0, 0)
			stays(t, list, 1, 0)
			stays(t, append(list, rank.Item{Chunk: 5, Tier: fast}), 0, 0)
			stays(t, append(list, rank.Item{Chunk: 5, Heat: 99}), 0, 0)
		}
	}
}

// P16.2: Wants.

func TestWantsWithRoom(t *testing.T) {
	list := []rank.Item{{Chunk: 3, Heat: 2}, {Chunk: 5, Heat: 3}, {Chunk: 6, Heat: 1}, {Chunk: 7, Heat: 99, Tier: fast}, {Chunk: 8, Tier: fast}}
	for _, room := range rooms() {
		moves(t, list, room, 0, 3, fast)
		moves(t, list, room, 1, 5, fast)
		moves(t, list[:3], room, 2, 3, fast) // Down has none, and needs none
	}
	for _, room := range noRooms() {
		moves(t, list, room, 0, 8, slow)
	}
}

func TestWantsWithoutUp(t *testing.T) {
	list := []rank.Item{{Chunk: 3, Heat: 1}, {Chunk: 5, Heat: 99, Busy: true}, {Chunk: 6, Busy: true, Pinned: true}, {Chunk: 7, Heat: 1, Tier: fast}, {Chunk: 8, Tier: fast}}
	for _, room := range append(noRooms(), rooms()...) {
		for _, pick := range picks() {
			stays(t, list, room, pick)
		}
	}
}

func TestWantsWithoutRoomAndDown(t *testing.T) {
	list := []rank.Item{{Chunk: 3, Heat: 99}, {Chunk: 5, Tier: fast, Busy: true}, {Chunk: 6, Tier: fast, Pinned: true}}
	for _, room := range noRooms() {
		for _, pick := range picks() {
			stays(t, list, room, pick)
			list[0].Pinned = true
			stays(t, list, room, pick)
			list[0].Pinned = false
		}
	}
}

func TestWantsWithoutRoomHoldsLevels(t *testing.T) {
	for _, h := range manyHeats() {
		for _, g := range manyHeats() {
			list := []rank.Item{{Chunk: 3, Heat: h}, {Chunk: 5, Heat: g, Tier: fast}}
			for _, room := range noRooms() {
				if h >= 2 && level(h) > level(g) {
					moves(t, list, room, 0, 5, slow)
				} else {
					stays(t, list, room, 0)
				}
			}
			list[0].Pinned = true
			moves(t, list, 0, 0, 5, slow) // whatever the heats
			moves(t, list, 1, 0, 3, fast)
		}
	}
}

func TestWantsPicksOfBoth(t *testing.T) {
	list := []rank.Item{{Chunk: 1, Heat: 9}, {Chunk: 2, Heat: 9}, {Chunk: 3, Heat: 9}, {Chunk: 4, Heat: 2, Tier: fast}, {Chunk: 5, Heat: 3, Tier: fast}}
	for pick := range 12 {
		moves(t, list, 1, pick, 1+pick%3, fast)
		moves(t, list, 0, pick, 4+pick%2, slow)
	}
}

func TestWantsOfTheChunk0(t *testing.T) {
	list := []rank.Item{{Chunk: 0, Heat: 9}, {Chunk: 4, Tier: fast}}
	stays(t, list, 1, 0) // Up is 0, and so there is none
	stays(t, list, 0, 0)
	list = []rank.Item{{Chunk: 0, Tier: fast}, {Chunk: 4, Heat: 9}}
	stays(t, list, 0, 0) // Down is 0
	moves(t, list, 1, 0, 4, fast)
}

// P16.1 and P16.2: all lists of few items, and many of any.

func TestAllListsOfFewItems(t *testing.T) {
	var kinds []rank.Item
	for _, heat := range []int{0, 1, 2, 3, 4} {
		for i := range 8 {
			kinds = append(kinds, rank.Item{Heat: heat, Tier: i % 2, Pinned: i&2 != 0, Busy: i&4 != 0})
		}
	}
	for i := range len(kinds) * len(kinds) * len(kinds) {
		list := []rank.Item{kinds[i%len(kinds)], kinds[i/len(kinds)%len(kinds)], kinds[i/len(kinds)/len(kinds)]}
		list[0].Chunk, list[1].Chunk, list[2].Chunk = 2, 3, 1023
		for pick := range 3 {
			holds(t, list, i%3, pick)
			holds(t, list[i%3:], 0, pick)
		}
		if t.Failed() {
			return
		}
	}
}

func TestListsOfAnyItems(t *testing.T) {
	chance := rand.New(rand.NewSource(16))
	for range 3000 {
		list := anyList(chance, chance.Intn(1+chance.Intn(60)))
		for range 5 {
			holds(t, list, chance.Intn(4)-1, int(chance.Uint64()))
			holds(t, list, 0, picks()[chance.Intn(len(picks()))])
		}
		if t.Failed() {
			return
		}
	}
}

func TestAListOfAllChunks(t *testing.T) {
	chance := rand.New(rand.NewSource(161))
	for range 20 {
		list := anyList(chance, api.MaxChunks)
		for _, pick := range picks() {
			holds(t, list, 0, pick)
			holds(t, list, 1, pick)
		}
	}
}

func TestListsOfAnything(t *testing.T) {
	chance := rand.New(rand.NewSource(162))
	for range 3000 {
		list := make([]rank.Item, chance.Intn(9))
		for i := range list {
			list[i] = anyItem(chance)
		}
		pick := picks()[chance.Intn(len(picks()))]
		room := append(noRooms(), rooms()...)[chance.Intn(len(noRooms())+len(rooms()))]
		up, down := rank.Up(list, pick), rank.Down(list, pick)
		for _, c := range []int{up, down} {
			if c != 0 && !slices.ContainsFunc(list, func(x rank.Item) bool { return x.Chunk == c }) {
				t.Errorf("%d of %v", c, list)
			}
		}
		if c, to, ok := rank.Wants(list, room, pick); !ok && (c != 0 || to != 0) || ok && c != up && c != down {
			t.Errorf("Wants(%v, %d, %d) = %d, %d, %v", list, room, pick, c, to, ok)
		}
	}
}

func TestListsStayAsTheyWere(t *testing.T) {
	chance := rand.New(rand.NewSource(163))
	for range 300 {
		whole := anyList(chance, 3+chance.Intn(20))
		was := slices.Clone(whole)
		list := whole[1 : len(whole)-1] // with room ahead and behind
		pick := int(chance.Uint64())
		rank.Up(list, pick)
		rank.Down(list, pick)
		rank.Wants(list, 1, pick)
		rank.Wants(list, 0, pick)
		if !slices.Equal(whole, was) {
			t.Fatalf("%v was %v", whole, was)
		}
	}
}

func TestNothingIsKept(t *testing.T) {
	chance := rand.New(rand.NewSource(164))
	for range 300 {
		list := anyList(chance, 1+chance.Intn(20))
		for range 4 {
			holds(t, list, chance.Intn(2), 5)
		}
		list[0].Heat, list[0].Busy, list[0].Pinned, list[0].Tier = 1<<20, false, true, slow
		holds(t, list, 1, 5)
		holds(t, list, 0, 5)
	}
}

// P16.3: pinned chunks stay on the fast tier, and come there ahead of others.

// of answers the item of that chunk.
func of(list []rank.Item, chunk int) *rank.Item {
	for i := range list {
		if list[i].Chunk == chunk {
			return &list[i]
		}
	}
	return nil
}

func TestPinnedChunksAreNeverDemoted(t *testing.T) {
	chance := rand.New(rand.NewSource(165))
	for range 3000 {
		list := anyList(chance, 1+chance.Intn(30))
		pick := int(chance.Uint64())
		if c := rank.Down(list, pick); c != 0 && of(list, c).Pinned {
			t.Errorf("Down(%v, %d) = %d", list, pick, c)
		}
		if c, to, ok := rank.Wants(list, chance.Intn(3)-1, pick); ok && to == slow && of(list, c).Pinned {
			t.Errorf("Wants(%v, .., %d) = %d, %d", list, pick, c, to)
		}
	}
}

func TestPinnedChunksThatWaitMoveAheadOfOthers(t *testing.T) {
	chance := rand.New(rand.NewSource(166))
	for range 3000 {
		list := anyList(chance, 1+chance.Intn(30))
		one := &list[chance.Intn(len(list))]
		one.Tier, one.Pinned, one.Busy = slow, true, false
		pick := int(chance.Uint64())
		c, to, ok := rank.Wants(list, rooms()[chance.Intn(len(rooms()))], pick)
		if !ok || to != fast || !of(list, c).Pinned || of(list, c).Tier != slow || of(list, c).Busy {
			t.Errorf("Wants(%v, .., %d) = %d, %d, %v", list, pick, c, to, ok)
		}
	}
}

// TestMovesComeToAnEnd makes all moves that are wanted, one by one: pinned chunks come up while there is room for
// them, those that are up stay, and then no chunk on the slow tier that might go is of a greater level than one that
// isn't pinned on the fast one.
func TestMovesComeToAnEnd(t *testing.T) {
	chance := rand.New(rand.NewSource(167))
	for range 1000 {
		list := anyList(chance, 1+chance.Intn(30))
		pinned, used := 0, 0
		for i := range list {
			list[i].Busy = false
			pinned += count(list[i].Pinned)
			used += list[i].Tier
		}
		slots := used + chance.Intn(4)
		for steps := 0; ; steps++ {
			c, to, ok := rank.Wants(list, slots-used, int(chance.Uint64()))
			if !ok {
				break
			}
			of(list, c).Tier = to
			used += 2*to - 1
			if to == slow && of(list, c).Pinned || used > slots || steps > 100*len(list) {
				t.Fatalf("%d moves to %d of %v", c, to, list)
			}
		}
		isSettled(t, list, slots, pinned)
	}
}

func count(is bool) int {
	if is {
		return 1
	}
	return 0
}

// isSettled fails the test, unless a list is as it is when no move is wanted on a fast tier of so many slots.
func isSettled(t *testing.T, list []rank.Item, slots, pinned int) {
	t.Helper()
	there, used, most, least := 0, 0, 0, top
	for _, x := range list {
		used += x.Tier
		switch {
		case x.Pinned:
			there += x.Tier
		case x.Tier == slow:
			most = max(most, level(x.Heat))
		default:
			least = min(least, level(x.Heat))
		}
	}
	if there != min(pinned, slots) {
		t.Errorf("%d of %d pinned ones are on %d slots: %v", there, pinned, slots, list)
	}
	if used < slots && most >= warm || used == slots && most >= warm && most > least {
		t.Errorf("%v on %d slots", list, slots)
	}
}
