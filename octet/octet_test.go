package octet_test

import (
	"math"
	"strings"
	"testing"

	"tierce/api"
	"tierce/octet"
)

// holds fails the test, unless the Writer has just these bytes.
func holds(t *testing.T, w *octet.Writer, want string) {
	t.Helper()
	if got := w.String(); got != want || w.Len() != len(want) {
		t.Errorf("String %q, Len %d; want %q, %d", got, w.Len(), want, len(want))
	}
}

// P1.1: Put.

func TestPutOfEachSize(t *testing.T) {
	const n, bytes = 0xf8f7f6f5f4f3f2f1, "\xf1\xf2\xf3\xf4\xf5\xf6\xf7\xf8"
	for size := 1; size <= 8; size++ {
		var w octet.Writer
		w.Put(n, size)
		holds(t, &w, bytes[:size])
	}
}

func TestPutOfOtherSizesTakesTheNearest(t *testing.T) {
	for _, c := range []struct{ size, want int }{
		{0, 1}, {-1, 1}, {math.MinInt, 1}, {9, 8}, {64, 8}, {math.MaxInt, 8},
	} {
		var w octet.Writer
		w.Put(0xf8f7f6f5f4f3f2f1, c.size)
		holds(t, &w, "\xf1\xf2\xf3\xf4\xf5\xf6\xf7\xf8"[:c.want])
	}
}

func TestPutOfTheEnds(t *testing.T) {
	var w octet.Writer
	w.Put(0, 8)
	w.Put(math.MaxUint64, 8)
	w.Put(1<<63, 8)
	w.Put(258, 2)
	holds(t, &w, strings.Repeat("\x00", 8)+strings.Repeat("\xff", 8)+strings.Repeat("\x00", 7)+"\x80"+"\x02\x01")
}

// P1.1: Text, Fill, String, Len.

func TestEmptyWriter(t *testing.T) {
	var w octet.Writer
	holds(t, &w, "")
	holds(t, &octet.Writer{}, "")
	holds(t, new(octet.Writer), "")
}

func TestTextIsTheseBytes(t *testing.T) {
	var w octet.Writer
	w.Text("a\x00")
	holds(t, &w, "a\x00")
	w.Text("")
	holds(t, &w, "a\x00")
	w.Text("\xff\xfeé\n")
	holds(t, &w, "a\x00\xff\xfeé\n")
}

func TestFill(t *testing.T) {
	var w octet.Writer
	for _, n := range []int{0, -1, math.MinInt} {
		w.Fill(n)
		holds(t, &w, "")
	}
	w.Fill(2)
	holds(t, &w, "\x00\x00")
	w.Text("abc")
	for _, n := range []int{math.MinInt, -1, 0, 1, 4, 5} {
		w.Fill(n)
		holds(t, &w, "\x00\x00abc")
	}
	w.Fill(6)
	holds(t, &w, "\x00\x00abc\x00")
	w.Fill(8)
	w.Fill(7)
	holds(t, &w, "\x00\x00abc\x00\x00\x00")
	w.Put(7, 1)
	holds(t, &w, "\x00\x00abc\x00\x00\x00\x07")
	w.Fill(8)
	holds(t, &w, "\x00\x00abc\x00\x00\x00\x07")
}

func TestFillOfAPage(t *testing.T) {
	var w octet.Writer
	w.Put('L', 1)
	w.Fill(api.PageSize - 4)
	w.Put(0x01020304, 4)
	holds(t, &w, "L"+strings.Repeat("\x00", api.PageSize-5)+"\x04\x03\x02\x01")
}

func TestFillOfHugeNumbers(t *testing.T) {
	for _, n := range []int{1 << 20, math.MaxInt32, math.MaxInt - 1, math.MaxInt} {
		var w octet.Writer
		w.Text("ab")
		w.Fill(n)
		if w.Len() != n {
			t.Errorf("Fill(%d): Len %d", n, w.Len())
		}
	}
}

func TestLenCountsBeyondWhatStringTells(t *testing.T) {
	var w octet.Writer
	w.Fill(math.MaxInt - 4)
	w.Text("ab")
	if w.Len() != math.MaxInt-2 {
		t.Error(w.Len())
	}
	w.Put(1, 8)
	w.Text("abc")
	w.Fill(5)
	w.Fill(math.MaxInt)
	if w.Len() != math.MaxInt {
		t.Error(w.Len())
	}
	_ = w.String()
}

func TestTellingChangesNothing(t *testing.T) {
	var w octet.Writer
	w.Text("a")
	w.Fill(3)
	first := w.String()
	holds(t, &w, first)
	w.Text("b")
	if first != "a\x00\x00" {
		t.Errorf("%q", first)
	}
	holds(t, &w, "a\x00\x00b")
}

func TestCopyOfAWriterGoesItsOwnWay(t *testing.T) {
	var w octet.Writer
	w.Text("abc")
	w.Fill(4)
	c := w
	c.Text("one")
	w.Text("two")
	d := c
	d.Fill(9)
	c.Put(5, 1)
	holds(t, &w, "abc\x00two")
	holds(t, &c, "abc\x00one\x05")
	holds(t, &d, "abc\x00one\x00\x00")
	w = d
	w.Text("!")
	d.Text("?")
	holds(t, &w, "abc\x00one\x00\x00!")
	holds(t, &d, "abc\x00one\x00\x00?")
}

func TestWritersAreApart(t *testing.T) {
	var a, b octet.Writer
	a.Text("a")
	b.Text("b")
	a.Text("a")
	holds(t, &a, "aa")
	holds(t, &b, "b")
}

func TestNilWriter(t *testing.T) {
	var w *octet.Writer
	w.Put(1, 8)
	w.Text("a")
	w.Fill(3)
	w.Fill(math.MinInt)
	holds(t, w, "")
}

// P1.2: Get.

func TestGetOfEachSize(t *testing.T) {
	const bytes = "\xf1\xf2\xf3\xf4\xf5\xf6\xf7\xf8"
	const n = uint64(0xf8f7f6f5f4f3f2f1)
	for size := 1; size <= 8; size++ {
		r := octet.Of(bytes[:size] + "z")
		want := n & (math.MaxUint64 >> (64 - 8*size))
		if got := r.Get(size); got != want {
			t.Errorf("size %d: %x, want %x", size, got, want)
		}
		if s := r.Take(1); s != "z" || r.End() != api.OK {
			t.Errorf("size %d: behind it %q, %d", size, s, r.End())
		}
	}
}

func TestGetOfOtherSizesTakesTheNearest(t *testing.T) {
	for _, c := range []struct {
		size int
		want uint64
		left string
	}{
		{0, 1, "\x02\x03\x04\x05\x06\x07\x08\x09"},
		{-1, 1, "\x02\x03\x04\x05\x06\x07\x08\x09"},
		{math.MinInt, 1, "\x02\x03\x04\x05\x06\x07\x08\x09"},
		{9, 0x0807060504030201, "\x09"},
		{math.MaxInt, 0x0807060504030201, "\x09"},
	} {
		r := octet.Of("\x01\x02\x03\x04\x05\x06\x07\x08\x09")
		n, left := r.Get(c.size), r.Take(len(c.left))
		if n != c.want || left != c.left || r.End() != api.OK {
			t.Errorf("size %d: %x, then %q", c.size, n, left)
		}
	}
}

func TestGetOfTooFewIsShort(t *testing.T) {
	for size := 1; size <= 8; size++ {
		for have := range size {
			r := octet.Of(strings.Repeat("\x07", have))
			if n := r.Get(size); n != 0 {
				t.Errorf("Get(%d) of %d bytes: %x", size, have, n)
			}
			isShort(t, r)
		}
	}
	r := octet.Of("")
	if r.Get(0) != 0 {
		t.Error("Get(0) of nothing")
	}
	isShort(t, r)
}

// isShort fails the test, unless nothing can be read any more, and the end says so.
func isShort(t *testing.T, r *octet.Reader) {
	t.Helper()
	if r.End() != api.ErrForm {
		t.Errorf("short: End %d", r.End())
	}
	if n, s := r.Get(1), r.Take(1); n != 0 || s != "" {
		t.Errorf("short: %d, %q", n, s)
	}
	if !r.Zeros() {
		t.Error("short: Zeros of nothing")
	}
	if s := r.Take(0); s != "" || r.End() != api.ErrForm {
		t.Errorf("short at the end: %q, End %d", s, r.End())
	}
}

// P1.2: Take.

func TestTake(t *testing.T) {
	r := octet.Of("ab\x00\xff")
	if a, b, c := r.Take(1), r.Take(0), r.Take(3); a != "a" || b != "" || c != "b\x00\xff" {
		t.Errorf("%q %q %q", a, b, c)
	}
	if s := r.Take(0); s != "" || r.End() != api.OK {
		t.Errorf("%q, End %d", s, r.End())
	}
}

func TestTakeBelowZeroTakesNone(t *testing.T) {
	for _, n := range []int{-1, -8, math.MinInt} {
		r := octet.Of("ab")
		if a, b := r.Take(n), r.Take(2); a != "" || b != "ab" || r.End() != api.OK {
			t.Errorf("Take(%d): %q, then %q, End %d", n, a, b, r.End())
		}
	}
}

func TestTakeOfTooManyIsShort(t *testing.T) {
	for _, n := range []int{3, 4, math.MaxInt} {
		r := octet.Of("ab")
		if s := r.Take(n); s != "" {
			t.Errorf("Take(%d): %q", n, s)
		}
		isShort(t, r)
	}
	r := octet.Of("")
	if s := r.Take(1); s != "" {
		t.Errorf("%q", s)
	}
	isShort(t, r)
}

// P1.2: Zeros, End.

func TestZeros(t *testing.T) {
	for _, c := range []struct {
		text string
		want bool
	}{
		{"", true}, {"\x00", true}, {"\x00\x00\x00", true}, {"0", false}, {"\x00\x01", false},
		{"\x01\x00", false}, {"\x00\x80\x00", false}, {"\xff", false},
	} {
		r := octet.Of(c.text)
		if got := r.Zeros(); got != c.want {
			t.Errorf("Zeros of %q: %v", c.text, got)
		}
		if r.End() != api.OK {
			t.Errorf("End behind Zeros of %q: %d", c.text, r.End())
		}
		if !r.Zeros() {
			t.Errorf("Zeros of %q, again: something is left", c.text)
		}
	}
}

func TestZerosLooksOnlyAtWhatIsLeft(t *testing.T) {
	r := octet.Of("a\x00\x00")
	r.Take(1)
	if !r.Zeros() || r.End() != api.OK {
		t.Error("End", r.End())
	}
	isAtEnd := octet.Of("a")
	isAtEnd.Take(1)
	if !isAtEnd.Zeros() {
		t.Error("nothing is left, and not zeros")
	}
}

func TestReadingBehindZerosIsShort(t *testing.T) {
	r := octet.Of("\x01\x02")
	r.Zeros()
	if r.Get(1) != 0 {
		t.Error("a number behind the end")
	}
	isShort(t, r)
}

func TestEnd(t *testing.T) {
	if e := octet.Of("").End(); e != api.OK {
		t.Error("of nothing", e)
	}
	r := octet.Of("ab")
	for i, want := range []api.Errno{api.ErrForm, api.ErrForm, api.OK} {
		if e := r.End(); e != want || r.End() != want {
			t.Errorf("behind %d bytes: %d", i, e)
		}
		if want != api.OK {
			r.Get(1)
		}
	}
}

func TestReadersAreApart(t *testing.T) {
	a, b := octet.Of("ab"), octet.Of("ab")
	a.Take(2)
	if s := b.Take(1); s != "a" || a.End() != api.OK || b.End() != api.ErrForm {
		t.Errorf("%q", s)
	}
}

func TestNilReader(t *testing.T) {
	var r *octet.Reader
	for _, n := range []int{math.MinInt, -1, 0, 1, 8, math.MaxInt} {
		if r.Get(n) != 0 || r.Take(n) != "" {
			t.Error("of nil something is read")
		}
	}
	if r.Zeros() || r.End() != api.ErrNil {
		t.Error("of nil", r.Zeros(), r.End())
	}
}

// P1.3.

// item is a number with its size, or a text.
type item struct {
	n    uint64
	size int // 0: a text
	text string
}

func written(list []item) string {
	var w octet.Writer
	for _, x := range list {
		if x.size == 0 {
			w.Text(x.text)
		} else {
			w.Put(x.n, x.size)
		}
	}
	return w.String()
}

func isReadAsItWas(t *testing.T, list []item) {
	t.Helper()
	r := octet.Of(written(list))
	for i, x := range list {
		if x.size == 0 {
			if s := r.Take(len(x.text)); s != x.text {
				t.Fatalf("%d of %v: %q", i, list, s)
			}
		} else if n := r.Get(x.size); n != x.n {
			t.Fatalf("%d of %v: %x", i, list, n)
		}
	}
	if e := r.End(); e != api.OK {
		t.Fatalf("%v: End %d", list, e)
	}
}

func TestWhatWasPutIsGot(t *testing.T) {
	for size := 1; size <= 8; size++ {
		top := uint64(math.MaxUint64) >> (64 - 8*size)
		for shift := range 8 * size {
			bit := uint64(1) << shift
			isReadAsItWas(t, []item{{n: bit, size: size}, {n: top &^ bit, size: size}, {n: 1, size: 1}})
		}
		isReadAsItWas(t, []item{{n: 0, size: size}, {text: "ab"}, {n: top, size: size}, {text: ""}})
	}
}

func TestRowsAreReadAsTheyWere(t *testing.T) {
	state := uint64(1)
	next := func() uint64 {
		state ^= state << 13
		state ^= state >> 7
		state ^= state << 17
		return state
	}
	for range 500 {
		var list []item
		for range next() % 40 {
			size := int(next() % 9)
			x := item{size: size}
			if size == 0 {
				x.text = strings.Repeat(string([]byte{byte(next())}), int(next()%20))
			} else {
				x.n = next() >> (64 - 8*size)
			}
			list = append(list, x)
		}
		isReadAsItWas(t, list)
	}
}

func TestPutKeepsTheLowestBytesAlone(t *testing.T) {
	for size := 1; size <= 8; size++ {
		var w octet.Writer
		w.Put(0xf8f7f6f5f4f3f2f1, size)
		want := uint64(0xf8f7f6f5f4f3f2f1) & (math.MaxUint64 >> (64 - 8*size))
		if n := octet.Of(w.String()).Get(size); n != want {
			t.Errorf("size %d: %x, want %x", size, n, want)
		}
	}
}
