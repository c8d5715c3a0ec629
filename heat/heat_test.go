package heat_test

import (
	"math"
	"math/rand"
	"slices"
	"testing"

	"tierce/api"
	"tierce/heat"
)

// Numbers of the document, written out, so that these tests hold the limits too.
const (
	most  = 1048576 // the greatest heat
	lastC = 1023    // the last chunk
)

// Helpers: a book by the chapter's words, as a row of all chunks' heats.

// row has at i the heat of the chunk i; nothing stands at 0.
type row [lastC + 1]int

func (r *row) touch(chunk, n int) {
	if chunk < 1 || chunk > lastC || n <= 0 {
		return
	}
	if n >= most || r[chunk]+n >= most {
		r[chunk] = most
	} else {
		r[chunk] += n
	}
}

func (r *row) decay() {
	for chunk, h := range r {
		r[chunk] = (h - h%2) / 2
	}
}

func (r *row) forget(chunk int) {
	if chunk >= 1 && chunk <= lastC {
		r[chunk] = 0
	}
}

// Helpers: numbers.

// noChunks answers numbers that no chunk has.
func noChunks() []int {
	return []int{0, -1, -4, 1024, 1025, 1024 + 4, 1 << 16, 1 << 32, 1<<32 + 4, -1 << 32, math.MaxInt32, math.MinInt32, math.MaxInt, math.MinInt, math.MinInt + 4}
}

// noTouches answers numbers of uses by which a chunk gets no hotter.
func noTouches() []int {
	return []int{0, -1, -2, -most, -1 << 32, 1 - 1<<32, math.MinInt32, math.MinInt, math.MinInt + 1}
}

// heats answers heats that can be, rising: the least, the greatest, and those about each power of two.
func heats() []int {
	var out []int
	for h := range 70 {
		out = append(out, h)
	}
	for p := 128; p <= most; p *= 2 {
		for _, h := range []int{p - 3, p - 2, p - 1, p, p + 1, p + 2, p + p/2} {
			if h <= most {
				out = append(out, h)
			}
		}
	}
	return out
}

// manyUses answers numbers of uses of all kinds, those that are none too.
func manyUses() []int {
	return append(heats(), append(noTouches(), most+1, 2*most, 1<<32, 1<<32+1, math.MaxInt32, math.MaxInt-most, math.MaxInt-1, math.MaxInt)...)
}

// Helpers: what is wanted.

// holds fails the test, unless b tells of all chunks, and of numbers that no chunk has, what r does.
func holds(t *testing.T, b *heat.Book, r *row) {
	t.Helper()
	var hot []int
	sum := 0
	for chunk := 1; chunk <= lastC; chunk++ {
		of(t, b, chunk, r[chunk])
		if r[chunk] != 0 {
			hot = append(hot, chunk)
			sum += r[chunk]
		}
	}
	for _, chunk := range noChunks() {
		of(t, b, chunk, 0)
	}
	isHot(t, b, hot...)
	if s := b.Sum(); s != sum {
		t.Errorf("Sum() = %d; want %d", s, sum)
	}
}

// of fails the test, unless a chunk has that heat.
func of(t *testing.T, b *heat.Book, chunk, want int) {
	t.Helper()
	if h := b.Of(chunk); h != want {
		t.Errorf("Of(%d) = %d; want %d", chunk, h, want)
	}
}

// isHot fails the test, unless just these aren't cold.
func isHot(t *testing.T, b *heat.Book, want ...int) {
	t.Helper()
	if l := b.Hot(); !slices.Equal(l, want) {
		t.Errorf("Hot() = %v; want %v", l, want)
	}
}

// touched answers a book with these heats, of the chunks from 1 on, and the same as a row.
func touched(hs ...int) (*heat.Book, *row) {
	b, r := heat.New(), &row{}
	for i, h := range hs {
		b.Touch(i+1, h)
		r[i+1] = h
	}
	return b, r
}

// P15.1: New, Touch and Of.

func TestNewBookIsCold(t *testing.T) {
	holds(t, heat.New(), &row{})
}

func TestEachNewIsOneOfItsOwn(t *testing.T) {
	a, b := heat.New(), heat.New()
	a.Touch(7, 3)
	b.Touch(8, 5)
	a.Touch(8, 1)
	b.Decay()
	holds(t, a, &row{7: 3, 8: 1})
	holds(t, b, &row{8: 2})
	b.Forget(8)
	holds(t, a, &row{7: 3, 8: 1})
	holds(t, heat.New(), &row{})
}

func TestTouchOfEachChunk(t *testing.T) {
	b, r := heat.New(), &row{}
	for chunk := 1; chunk <= lastC; chunk++ {
		b.Touch(chunk, 2*chunk+1)
		r[chunk] = 2*chunk + 1
	}
	holds(t, b, r)
}

func TestTouchesAddUp(t *testing.T) {
	for _, chunk := range []int{1, 2, 512, 1022, lastC} {
		b, r := heat.New(), &row{}
		for n := 1; n < 100; n++ {
			b.Touch(chunk, n)
			r[chunk] += n
			of(t, b, chunk, r[chunk])
		}
		holds(t, b, r)
	}
}

func TestTouchOfAnyUsesOfAnyHeat(t *testing.T) {
	for _, h := range heats() {
		for _, n := range manyUses() {
			b, r := touched(9, h, 8)
			b.Touch(2, n)
			r.touch(2, n)
			for chunk := 0; chunk <= 4; chunk++ {
				of(t, b, chunk, r[chunk])
			}
		}
	}
}

func TestTouchUpToTheGreatestHeat(t *testing.T) {
	b := heat.New()
	b.Touch(4, most-1)
	of(t, b, 4, most-1)
	b.Touch(4, 1)
	of(t, b, 4, most)
	for _, n := range []int{1, 2, most, 1 << 32, math.MaxInt} {
		b.Touch(4, n)
		of(t, b, 4, most)
	}
	b.Touch(3, most)
	of(t, b, 3, most)
	b.Touch(5, most+1)
	of(t, b, 5, most)
	b.Touch(6, 2)
	b.Touch(6, most-1)
	of(t, b, 6, most)
	b.Touch(7, 1)
	b.Touch(7, math.MaxInt)
	of(t, b, 7, most)
	holds(t, b, &row{3: most, 4: most, 5: most, 6: most, 7: most})
}

func TestTheGreatestHeatIsTheApis(t *testing.T) {
	if api.MaxHeat != most || api.MaxChunks != lastC {
		t.Error(api.MaxHeat, api.MaxChunks)
	}
}

func TestTouchOfNoChunk(t *testing.T) {
	b, r := touched(3, 1, 0, 6)
	for _, chunk := range noChunks() {
		for _, n := range []int{1, 5, most, math.MaxInt, 0, -1, math.MinInt} {
			b.Touch(chunk, n)
		}
	}
	holds(t, b, r)
	b.Decay()
	r.decay()
	holds(t, b, r)
}

func TestTouchOfNoUses(t *testing.T) {
	b, r := touched(3, 1, 0, most)
	for _, n := range noTouches() {
		for chunk := 1; chunk <= 5; chunk++ {
			b.Touch(chunk, n)
		}
		b.Touch(lastC, n)
	}
	holds(t, b, r)
}

func TestTellingChangesNothing(t *testing.T) {
	b, r := touched(3, 0, most, 1)
	for chunk := -5; chunk < 1030; chunk++ {
		b.Of(chunk)
	}
	b.Sum()
	b.Hot()
	holds(t, b, r)
}

// P15.1: Decay.

func TestTheExample(t *testing.T) {
	b := heat.New()
	b.Touch(1, 5)
	b.Decay()
	of(t, b, 1, 2)
	b.Touch(1, 5)
	b.Decay()
	of(t, b, 1, 3)
}

func TestDecayHalvesEachHeat(t *testing.T) {
	b, r := touched(heats()...)
	for range 25 {
		b.Decay()
		r.decay()
		holds(t, b, r)
	}
	holds(t, b, &row{})
}

func TestDecayOfAllChunks(t *testing.T) {
	b, r := heat.New(), &row{}
	for chunk := 1; chunk <= lastC; chunk++ {
		b.Touch(chunk, most-chunk+1)
		r[chunk] = most - chunk + 1
	}
	holds(t, b, r)
	for chunk := 1; chunk <= lastC; chunk++ {
		r[chunk] /= 2
	}
	b.Decay()
	holds(t, b, r)
}

func TestDecayOfAHeatOfOneIsCold(t *testing.T) {
	b, _ := touched(1, 2, 3, 1)
	b.Decay()
	holds(t, b, &row{2: 1, 3: 1})
	b.Decay()
	holds(t, b, &row{})
	b.Touch(4, 1)
	holds(t, b, &row{4: 1})
}

func TestDecayOfAColdBook(t *testing.T) {
	b := heat.New()
	b.Decay()
	holds(t, b, &row{})
	b.Touch(6, 4)
	holds(t, b, &row{6: 4})
}

func TestEachUseFadesByItself(t *testing.T) {
	b := heat.New()
	b.Touch(2, 3)
	b.Decay()
	b.Touch(2, 2)
	b.Touch(3, 5)
	b.Decay()
	holds(t, b, &row{2: 1, 3: 2})
}

func TestTouchAfterDecayOfTheGreatestHeat(t *testing.T) {
	b := heat.New()
	b.Touch(2, math.MaxInt)
	b.Decay()
	of(t, b, 2, most/2)
	b.Touch(2, most/2-1)
	of(t, b, 2, most-1)
	b.Touch(2, 2)
	of(t, b, 2, most)
}

// P15.1: Forget.

func TestForgetMakesAChunkCold(t *testing.T) {
	for _, h := range []int{1, 2, 99, most} {
		for chunk := 1; chunk <= 4; chunk++ {
			b, r := touched(h, h, h, h)
			b.Forget(chunk)
			r[chunk] = 0
			holds(t, b, r)
			b.Forget(chunk)
			holds(t, b, r)
			b.Touch(chunk, 7)
			r[chunk] = 7
			holds(t, b, r)
		}
	}
}

func TestForgetOfTheFirstAndTheLastChunk(t *testing.T) {
	b := heat.New()
	for chunk := 1; chunk <= lastC; chunk++ {
		b.Touch(chunk, 1)
	}
	for chunk := 2; chunk < lastC; chunk++ {
		b.Forget(chunk)
	}
	holds(t, b, &row{1: 1, lastC: 1})
	b.Forget(1)
	holds(t, b, &row{lastC: 1})
	b.Forget(lastC)
	holds(t, b, &row{})
}

func TestForgetOfAColdChunk(t *testing.T) {
	b, r := touched(3, 0, 5)
	b.Forget(2)
	b.Forget(lastC)
	holds(t, b, r)
	heat.New().Forget(2)
}

func TestForgetOfNoChunk(t *testing.T) {
	b, r := touched(3, 1, 2, 5)
	b.Touch(lastC, 4)
	r[lastC] = 4
	for _, chunk := range noChunks() {
		b.Forget(chunk)
	}
	holds(t, b, r)
}

// P15.1: Sum and Hot.

func TestSumOfAllChunksAtTheirHottest(t *testing.T) {
	b, want := heat.New(), 0
	for chunk := lastC; chunk >= 1; chunk-- {
		b.Touch(chunk, math.MaxInt)
		want += most
		if s := b.Sum(); s != want {
			t.Fatalf("Sum() = %d; want %d", s, want)
		}
	}
	b.Decay()
	if s := b.Sum(); s != lastC*most/2 {
		t.Errorf("Sum() = %d", s)
	}
}

func TestHotRises(t *testing.T) {
	chance := rand.New(rand.NewSource(15))
	for range 30 {
		b := heat.New()
		var want []int
		for _, i := range chance.Perm(lastC)[:chance.Intn(lastC)] {
			b.Touch(i+1, 1+chance.Intn(9))
			want = append(want, i+1)
		}
		slices.Sort(want)
		isHot(t, b, want...)
		isHot(t, b, want...)
	}
}

func TestHotIsMemoryOfItsOwn(t *testing.T) {
	b, r := touched(3, 4, 5)
	l, m := b.Hot(), b.Hot()
	l[0], l[1] = 77, 78
	_ = append(l[:1], 79, 80, 81, 82)
	if !slices.Equal(m, []int{1, 2, 3}) {
		t.Error(m)
	}
	holds(t, b, r)
	b.Forget(2)
	b.Touch(9, 1)
	b.Decay()
	if !slices.Equal(m, []int{1, 2, 3}) {
		t.Error(m)
	}
}

func TestABookThatIsNil(t *testing.T) {
	var b *heat.Book
	for _, chunk := range append(noChunks(), 1, 4, lastC) {
		for _, n := range manyUses() {
			b.Touch(chunk, n)
		}
		b.Forget(chunk)
		b.Decay()
		of(t, b, chunk, 0)
	}
	holds(t, b, &row{})
}

func TestRowsOfCalls(t *testing.T) {
	chance := rand.New(rand.NewSource(151))
	uses := manyUses()
	for range 100 {
		chunks := append([]int{1, 2, 3, 500, 1022, lastC}, noChunks()...)[:1+chance.Intn(8)]
		b, r := heat.New(), &row{}
		for range 60 {
			chunk, n := chunks[chance.Intn(len(chunks))], uses[chance.Intn(len(uses))]
			switch chance.Intn(8) {
			case 0, 1, 2, 3:
				b.Touch(chunk, n)
				r.touch(chunk, n)
			case 4, 5, 6:
				b.Decay()
				r.decay()
			case 7:
				b.Forget(chunk)
				r.forget(chunk)
			}
			holds(t, b, r)
		}
		if t.Failed() {
			return
		}
	}
}

// P15.2: all fades, and who was never less touched is never colder.

func TestBehind21DecaysAllIsCold(t *testing.T) {
	b := heat.New()
	for chunk := 1; chunk <= lastC; chunk++ {
		for range 1 + chunk%3 {
			b.Touch(chunk, math.MaxInt)
		}
	}
	for i := range 21 {
		if n := len(b.Hot()); n != lastC {
			t.Errorf("behind %d Decays %d are hot", i, n)
		}
		b.Decay()
	}
	holds(t, b, &row{})
}

func TestBehind21DecaysAnyBookIsCold(t *testing.T) {
	chance := rand.New(rand.NewSource(152))
	uses := manyUses()
	for range 100 {
		b := heat.New()
		for range 50 {
			b.Touch(1+chance.Intn(lastC), uses[chance.Intn(len(uses))])
			if chance.Intn(5) == 0 {
				b.Decay()
			}
		}
		for range 21 {
			b.Decay()
			b.Touch(1+chance.Intn(lastC), noTouches()[chance.Intn(len(noTouches()))])
			b.Touch(noChunks()[chance.Intn(len(noChunks()))], 5)
			b.Forget(chance.Intn(lastC))
		}
		holds(t, b, &row{})
	}
}

func TestAHeatOfSoManyBitsIsColdBehindSoManyDecays(t *testing.T) {
	for bits := 1; bits <= 21; bits++ {
		b := heat.New()
		b.Touch(5, 1<<(bits-1))
		for i := range bits {
			of(t, b, 5, 1<<(bits-1-i))
			b.Decay()
		}
		of(t, b, 5, 0)
	}
}

func TestWhoWasNeverLessTouchedIsNeverColder(t *testing.T) {
	chance := rand.New(rand.NewSource(153))
	uses := []int{1, 1, 1, 2, 3, 4, 5, 7, 8, 100, 1000, most / 2, most - 1, most, most + 1, 1 << 40}
	for range 2000 {
		b := heat.New()
		chunks := chance.Perm(lastC)
		more, less := chunks[0]+1, chunks[1]+1
		ahead := 0 // by how many uses since the last Decay
		for range 60 {
			n := uses[chance.Intn(len(uses))]
			switch chance.Intn(8) {
			case 0, 1, 2:
				b.Touch(more, n)
				ahead += n
			case 3, 4, 5:
				n = min(n, ahead)
				b.Touch(less, n)
				ahead -= n
			case 6:
				b.Decay()
				ahead = 0
			case 7:
				if chance.Intn(10) == 0 {
					b.Forget(less)
				}
			}
			if b.Of(more) < b.Of(less) {
				t.Fatalf("%d has %d, %d has %d", more, b.Of(more), less, b.Of(less))
			}
		}
	}
}

func TestWhoWasTouchedTheSameIsAsHot(t *testing.T) {
	chance := rand.New(rand.NewSource(154))
	for range 200 {
		b := heat.New()
		for range 50 {
			n := 1 + chance.Intn(1<<chance.Intn(22))
			b.Touch(3, n)
			b.Touch(1000, n)
			if chance.Intn(3) == 0 {
				b.Decay()
			}
			of(t, b, 3, b.Of(1000))
		}
	}
}
