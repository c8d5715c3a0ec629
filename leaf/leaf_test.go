package leaf_test

import (
	"encoding/binary"
	"hash/crc32"
	"math"
	"math/rand"
	"slices"
	"strings"
	"testing"

	"tierce/api"
	"tierce/leaf"
)

// Helpers: pages as the chapter's words have them, made without the layers below.

// sealed answers text with its sum behind it.
func sealed(text string) string {
	sum := crc32.Checksum([]byte(text), crc32.MakeTable(crc32.Castagnoli))
	return string(binary.LittleEndian.AppendUint32([]byte(text), sum))
}

// pageOf answers the page of these parts, whether a node can have them or not.
func pageOf(level, count byte, list ...api.Pair) string {
	b := []byte{0x4C, level, count, 0}
	for _, p := range list {
		b = binary.LittleEndian.AppendUint64(b, p.Key)
		b = binary.LittleEndian.AppendUint64(b, p.Val)
	}
	return sealed(string(b) + strings.Repeat("\x00", max(0, 252-len(b))))
}

// pairs answers so many pairs with rising keys, all of them pages.
func pairs(n int) []api.Pair {
	var list []api.Pair
	for i := range n {
		list = append(list, api.Pair{Key: uint64(7 * i), Val: uint64(i + 1)})
	}
	return list
}

// same tells whether two nodes are one, a list of nothing being nil or empty.
func same(a, b api.Leaf) bool {
	return a.Level == b.Level && slices.Equal(a.List, b.List)
}

// canBe fails the test, unless l is a node that can be, whose page is want, and is read so.
func canBe(t *testing.T, l api.Leaf, want string) {
	t.Helper()
	if !leaf.Good(l) {
		t.Errorf("Good(%v): false", l)
	}
	if s, e := leaf.Bytes(l); s != want || e != api.OK {
		t.Errorf("Bytes(%v) = %q, %d; want %q", l, s, e, want)
	}
	if got, e := leaf.Read(want); !same(got, l) || e != api.OK {
		t.Errorf("Read(%q) = %v, %d; want %v", want, got, e, l)
	}
}

// cannotBe fails the test, unless l is a node that can't be.
func cannotBe(t *testing.T, l api.Leaf) {
	t.Helper()
	if leaf.Good(l) {
		t.Errorf("Good(%v): true", l)
	}
	if s, e := leaf.Bytes(l); s != "" || e != api.ErrArg {
		t.Errorf("Bytes(%v) = %q, %d; want nothing, ErrArg", l, s, e)
	}
}

// isNone fails the test, unless s is no node's page.
func isNone(t *testing.T, s string) {
	t.Helper()
	if l, e := leaf.Read(s); !same(l, api.Leaf{}) || e != api.ErrForm {
		t.Errorf("Read(%q) = %v, %d; want nothing, ErrForm", s, l, e)
	}
}

// some answers a node that can be, whichever.
func some(chance *rand.Rand) api.Leaf {
	l := api.Leaf{Level: max(0, chance.Intn(2*api.MaxHeight)-api.MaxHeight)}
	keys := map[uint64]bool{}
	for range chance.Intn(leaf.Most + 1) {
		keys[chance.Uint64()>>chance.Intn(64)] = true
	}
	if l.Level > 0 {
		keys[chance.Uint64()] = true
	}
	for key := range keys {
		val := chance.Uint64() >> chance.Intn(64)
		if l.Level > 0 {
			val = val%(api.MaxPages-1) + 1
		}
		l.List = append(l.List, api.Pair{Key: key, Val: val})
	}
	slices.SortFunc(l.List, func(a, b api.Pair) int {
		if a.Key < b.Key {
			return -1
		}
		return 1
	})
	l.List = l.List[:min(len(l.List), leaf.Most)]
	return l
}

// P5.1: nodes that can be, and their bytes.

func TestMost(t *testing.T) {
	if leaf.Most != 15 {
		t.Error(leaf.Most)
	}
}

func TestBytesOfANodeOfNoPairs(t *testing.T) {
	want := sealed("\x4C\x00\x00\x00" + strings.Repeat("\x00", 248))
	canBe(t, api.Leaf{}, want)
	canBe(t, api.Leaf{List: []api.Pair{}}, want)
	if len(want) != api.PageSize {
		t.Error(len(want))
	}
}

func TestBytesOfANodeByHand(t *testing.T) {
	canBe(t, api.Leaf{Level: 3, List: []api.Pair{{Key: 0x0807060504030201, Val: 0x0102}, {Key: math.MaxUint64, Val: 1}}},
		sealed("L\x03\x02\x00"+
			"\x01\x02\x03\x04\x05\x06\x07\x08"+"\x02\x01\x00\x00\x00\x00\x00\x00"+
			"\xff\xff\xff\xff\xff\xff\xff\xff"+"\x01\x00\x00\x00\x00\x00\x00\x00"+
			strings.Repeat("\x00", 252-36)))
	canBe(t, api.Leaf{List: []api.Pair{{Key: 5, Val: 0xf8f7f6f5f4f3f2f1}}},
		sealed("L\x00\x01\x00"+"\x05\x00\x00\x00\x00\x00\x00\x00"+"\xf1\xf2\xf3\xf4\xf5\xf6\xf7\xf8"+
			strings.Repeat("\x00", 252-20)))
}

func TestNodesOfAllLevelsAndCounts(t *testing.T) {
	for level := range api.MaxHeight {
		for n := range leaf.Most + 1 {
			l := api.Leaf{Level: level, List: pairs(n)}
			if level > 0 && n == 0 {
				cannotBe(t, l)
				continue
			}
			canBe(t, l, pageOf(byte(level), byte(n), pairs(n)...))
		}
	}
}

func TestNodesOfOtherLevels(t *testing.T) {
	for _, level := range []int{-1, -2, -255, -256, 8, 9, 255, 256, 257, 1 << 32, 1<<32 + 1, math.MinInt, math.MinInt + 1, math.MaxInt} {
		for _, n := range []int{0, 1, 15} {
			cannotBe(t, api.Leaf{Level: level, List: pairs(n)})
		}
	}
}

func TestNodesOfTooManyPairs(t *testing.T) {
	for _, n := range []int{16, 17, 30, 255, 256, 257, 271} {
		for level := range api.MaxHeight {
			cannotBe(t, api.Leaf{Level: level, List: pairs(n)})
		}
	}
	cannotBe(t, api.Leaf{List: pairs(70000)})
}

func TestKeysRise(t *testing.T) {
	for level := range 2 {
		for at := 1; at < leaf.Most; at++ {
			l := api.Leaf{Level: level, List: pairs(leaf.Most)}
			l.List[at].Key = l.List[at-1].Key + 1
			canBe(t, l, pageOf(byte(level), leaf.Most, l.List...))
			l.List[at].Key-- // the same one twice
			cannotBe(t, l)
			l.List[at].Key--
			cannotBe(t, l)
		}
		cannotBe(t, api.Leaf{Level: level, List: []api.Pair{{Key: 2, Val: 1}, {Key: 1, Val: 2}}})
		cannotBe(t, api.Leaf{Level: level, List: []api.Pair{{Val: 1}, {Val: 1}}})
		cannotBe(t, api.Leaf{Level: level, List: []api.Pair{{Key: math.MaxUint64, Val: 1}, {Key: 0, Val: 2}}})
		// beyond the greatest number that has a sign
		cannotBe(t, api.Leaf{Level: level, List: []api.Pair{{Key: 1 << 63, Val: 1}, {Key: 1<<63 - 1, Val: 2}}})
		ends := []api.Pair{{Key: 0, Val: 2}, {Key: 1<<63 - 1, Val: 1}, {Key: 1 << 63, Val: 1}, {Key: math.MaxUint64, Val: 2}}
		canBe(t, api.Leaf{Level: level, List: ends}, pageOf(byte(level), 4, ends...))
	}
}

func TestValsAboveTheLeavesArePages(t *testing.T) {
	for at := range leaf.Most {
		for level := range api.MaxHeight {
			for _, val := range []uint64{1, 2, 256, 510, 511} {
				l := api.Leaf{Level: level, List: pairs(leaf.Most)}
				l.List[at].Val = val
				canBe(t, l, pageOf(byte(level), leaf.Most, l.List...))
			}
			for _, val := range []uint64{0, 512, 513, 1<<16 + 1, 1<<32 + 1, 1 << 63, math.MaxUint64} {
				l := api.Leaf{Level: level, List: pairs(leaf.Most)}
				l.List[at].Val = val
				if level == 0 {
					canBe(t, l, pageOf(0, leaf.Most, l.List...))
				} else {
					cannotBe(t, l)
				}
			}
		}
	}
	equal := []api.Pair{{Key: 1, Val: 9}, {Key: 2, Val: 9}, {Key: 3, Val: 4}} // vals may be any of these, in any order
	canBe(t, api.Leaf{Level: 7, List: equal}, pageOf(7, 3, equal...))
}

// P5.1: Read of what is no node's page.

func TestReadOfOtherLengths(t *testing.T) {
	isNone(t, "")
	page := pageOf(1, 3, pairs(3)...)
	for n := range len(page) {
		isNone(t, page[:n])
	}
	isNone(t, page+"\x00")
	isNone(t, page+page)
	isNone(t, "\x00"+page)
	for n := 4; n < 600; n++ {
		if n != 252 {
			isNone(t, sealed("L"+strings.Repeat("\x00", n-1)))
		}
	}
}

func TestReadOfAnotherSum(t *testing.T) {
	page := pageOf(0, 2, pairs(2)...)
	isNone(t, page[:252]+"\x00\x00\x00\x00")
	isNone(t, page[:252]+string([]byte{page[255], page[254], page[253], page[252]}))
	isNone(t, strings.Repeat("\x00", 256))
	isNone(t, strings.Repeat("\xff", 256))
}

// Every other value of each byte of a page, with the sum of that: it is read just if a node that can be has these bytes.
func TestReadOfEachByteWithItsSum(t *testing.T) {
	for _, page := range []string{pageOf(0, 0), pageOf(0, 2, pairs(2)...), pageOf(1, 3, pairs(3)...), pageOf(7, 15, pairs(15)...)} {
		for at := range 252 {
			for v := range 256 {
				b := []byte(page[:252])
				b[at] = byte(v)
				readsAsTold(t, sealed(string(b)))
			}
		}
	}
}

// readsAsTold fails the test, unless Read of a page with its sum answers what the chapter's words ask for.
func readsAsTold(t *testing.T, s string) {
	t.Helper()
	l := api.Leaf{Level: int(s[1])}
	count := int(s[2])
	good := s[0] == 'L' && s[3] == 0 && l.Level < 8 && count < 16 && (l.Level == 0 || count > 0)
	for i := range min(count, 15) {
		key := binary.LittleEndian.Uint64([]byte(s[4+16*i:]))
		val := binary.LittleEndian.Uint64([]byte(s[12+16*i:]))
		good = good && (i == 0 || key > l.List[i-1].Key) && (l.Level == 0 || val > 0 && val < 512)
		l.List = append(l.List, api.Pair{Key: key, Val: val})
	}
	good = good && strings.Trim(s[4+16*min(count, 15):252], "\x00") == ""
	if !good {
		isNone(t, s)
		return
	}
	canBe(t, l, s)
}

func TestReadOfTextsThatAreNone(t *testing.T) {
	two := []api.Pair{{Key: 5, Val: 6}, {Key: 7, Val: 8}}
	for i, s := range []string{
		sealed("M" + pageOf(0, 0)[1:252]),
		sealed("\x00" + pageOf(0, 0)[1:252]),
		sealed("L\x00\x00\x01" + strings.Repeat("\x00", 248)),
		pageOf(8, 2, two...),
		pageOf(255, 2, two...),
		pageOf(1, 0),
		pageOf(7, 0),
		pageOf(0, 1, two...),                         // a pair that isn't counted
		pageOf(0, 3, two...),                         // one of zeros that is
		pageOf(0, 16, pairs(15)...),                  // more than there is room for
		pageOf(0, 255, pairs(15)...),                 //
		pageOf(0, 2, two[1], two[0]),                 // keys that fall
		pageOf(0, 2, two[0], two[0]),                 // a key twice
		pageOf(1, 2, two[0], api.Pair{Key: 7}),       // no page
		pageOf(1, 1, api.Pair{Key: 7, Val: 512}),     // beyond the pages
		pageOf(1, 1, api.Pair{Key: 7, Val: 1 << 40}), //
		sealed(pageOf(0, 15, pairs(15)...)[:251] + "\x01"),
		sealed(pageOf(0, 0)[:251] + "\x01"),
		sealed(pageOf(0, 0)[:4] + "\x01" + strings.Repeat("\x00", 247)),
	} {
		if len(s) != 256 {
			t.Error(i, len(s))
		}
		isNone(t, s)
	}
}

// P5.2.

// finds fails the test, unless Find and Child of l and key answer what is wanted.
func finds(t *testing.T, l api.Leaf, key uint64, find int, is bool, child int) {
	t.Helper()
	if i, ok := leaf.Find(l, key); i != find || ok != is {
		t.Errorf("Find(%v, %d) = %d, %v; want %d, %v", l, key, i, ok, find, is)
	}
	if i := leaf.Child(l, key); i != child {
		t.Errorf("Child(%v, %d) = %d; want %d", l, key, i, child)
	}
}

func TestFindAndChildOfNoPairs(t *testing.T) {
	for _, key := range []uint64{0, 1, math.MaxUint64} {
		finds(t, api.Leaf{}, key, 0, false, -1)
		finds(t, api.Leaf{List: []api.Pair{}}, key, 0, false, -1)
		finds(t, api.Leaf{Level: 3}, key, 0, false, -1)
	}
}

func TestFindAndChild(t *testing.T) {
	l := api.Leaf{List: []api.Pair{{Key: 3, Val: 1}, {Key: 4}, {Key: 9, Val: 3}}}
	finds(t, l, 0, 0, false, -1)
	finds(t, l, 2, 0, false, -1)
	finds(t, l, 3, 0, true, 0)
	finds(t, l, 4, 1, true, 1)
	finds(t, l, 5, 2, false, 1)
	finds(t, l, 8, 2, false, 1)
	finds(t, l, 9, 2, true, 2)
	finds(t, l, 10, 3, false, 2)
	finds(t, l, math.MaxUint64, 3, false, 2)
}

func TestFindAndChildOfTheEnds(t *testing.T) {
	l := api.Leaf{Level: 1, List: []api.Pair{{Key: 0, Val: 1}, {Key: 1<<63 - 1, Val: 2}, {Key: 1 << 63, Val: 3}, {Key: math.MaxUint64, Val: 4}}}
	finds(t, l, 0, 0, true, 0)
	finds(t, l, 1, 1, false, 0)
	finds(t, l, 1<<63-1, 1, true, 1)
	finds(t, l, 1<<63, 2, true, 2)
	finds(t, l, 1<<63+1, 3, false, 2)
	finds(t, l, math.MaxUint64-1, 3, false, 2)
	finds(t, l, math.MaxUint64, 3, true, 3)
}

// The pairs alone count, so also of nodes that can't be.
func TestFindAndChildOfAnyNodeWhosePairsRise(t *testing.T) {
	for _, level := range []int{0, 1, 7, 8, -1, math.MinInt, math.MaxInt} {
		for _, n := range []int{1, 2, 3, 14, 15, 16, 100} {
			l := api.Leaf{Level: level}
			for i := range n {
				l.List = append(l.List, api.Pair{Key: uint64(3*i + 2), Val: math.MaxUint64})
			}
			finds(t, l, 0, 0, false, -1)
			finds(t, l, 1, 0, false, -1)
			for i := range n {
				finds(t, l, uint64(3*i+2), i, true, i)
				finds(t, l, uint64(3*i+3), i+1, false, i)
				finds(t, l, uint64(3*i+4), i+1, false, i)
			}
		}
	}
}

// Of pairs that don't rise nothing is told but that the calls end, and tell places that there are.
func TestFindAndChildOfAnyPairs(t *testing.T) {
	chance := rand.New(rand.NewSource(52))
	for range 2000 {
		var l api.Leaf
		for range chance.Intn(30) {
			l.List = append(l.List, api.Pair{Key: uint64(chance.Intn(9)), Val: chance.Uint64()})
		}
		for key := range uint64(10) {
			i, ok := leaf.Find(l, key)
			if i < 0 || i > len(l.List) || ok && i == len(l.List) {
				t.Errorf("Find(%v, %d) = %d, %v", l, key, i, ok)
			}
			if i := leaf.Child(l, key); i < -1 || i >= len(l.List) {
				t.Errorf("Child(%v, %d) = %d", l, key, i)
			}
		}
	}
}

// P5.3.

func TestWhatWasWrittenIsRead(t *testing.T) {
	chance := rand.New(rand.NewSource(53))
	for range 5000 {
		l := some(chance)
		canBe(t, l, pageOf(byte(l.Level), byte(len(l.List)), l.List...))
	}
}

// turned answers s with the bits of mask turned in the four bytes from at on.
func turned(s string, at int, mask uint32) string {
	b := []byte(s)
	for i := range 4 {
		b[at+i] ^= byte(mask >> (8 * i))
	}
	return string(b)
}

func TestWhatWasTurnedWithinFourBytesIsNotRead(t *testing.T) {
	chance := rand.New(rand.NewSource(54))
	nodes := []api.Leaf{{}, {List: pairs(15)}, {Level: 7, List: pairs(1)}}
	for range 5 {
		nodes = append(nodes, some(chance))
	}
	for _, l := range nodes {
		page, e := leaf.Bytes(l)
		if e != api.OK {
			t.Fatal(l, e)
		}
		for at := 0; at+4 <= len(page); at++ {
			isNone(t, turned(page, at, math.MaxUint32))
			for bit := range 32 {
				isNone(t, turned(page, at, 1<<bit))
			}
			for range 40 {
				if mask := chance.Uint32(); mask != 0 {
					isNone(t, turned(page, at, mask))
				}
			}
		}
	}
}

// The rules that hold everywhere: what is handed in stays, what is answered is new.

func TestWhatIsHandedInStays(t *testing.T) {
	room := append(pairs(15), api.Pair{Key: 77, Val: 77})
	l := api.Leaf{Level: 2, List: room[:14]}
	kept := slices.Clone(room)
	leaf.Good(l)
	leaf.Bytes(l)
	leaf.Find(l, 20)
	leaf.Child(l, 20)
	cannotBe(t, api.Leaf{Level: 2, List: room})
	if l.Level != 2 || len(l.List) != 14 || !slices.Equal(room, kept) {
		t.Error(l, room)
	}
}

func TestAnswersAreNewMemory(t *testing.T) {
	page := pageOf(2, 3, pairs(3)...)
	a, _ := leaf.Read(page)
	b, _ := leaf.Read(page)
	a.List[0] = api.Pair{Key: 99, Val: 99}
	_ = append(a.List[:1], api.Pair{Key: 98}, api.Pair{Key: 97}, api.Pair{Key: 96})
	if !slices.Equal(b.List, pairs(3)) {
		t.Error(b)
	}
	canBe(t, b, page)
}

func TestNothingIsKeptFromCallToCall(t *testing.T) {
	one, other := api.Leaf{Level: 1, List: pairs(2)}, api.Leaf{List: pairs(15)}
	for range 3 {
		canBe(t, one, pageOf(1, 2, pairs(2)...))
		cannotBe(t, api.Leaf{Level: 1})
		canBe(t, other, pageOf(0, 15, pairs(15)...))
		isNone(t, "")
	}
}
