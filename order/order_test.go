package order_test

import (
	"math"
	"math/rand"
	"slices"
	"strconv"
	"strings"
	"testing"
	"unicode/utf8"

	"tierce/api"
	"tierce/order"
)

// most is how many bytes an order's text has at most, written out, so that these tests hold the limit too.
const most = 512

// Helpers.

// told is an order with its line, its numbers and its texts, put down by hand.
type told struct {
	o       order.Order
	word    string
	line    string
	numbers []int
	texts   []string
}

// fifteen answers an order of each type, with numbers and texts that differ.
func fifteen() []told {
	return []told{
		{order.Create{Id: 1, Size: 8}, "create", "create 1 8", []int{1, 8}, nil},
		{order.Delete{Id: -3}, "delete", "delete -3", []int{-3}, nil},
		{order.Snap{From: 4, To: 15}, "snap", "snap 4 15", []int{4, 15}, nil},
		{order.Resize{Id: 16, Size: 0}, "resize", "resize 16 0", []int{16, 0}, nil},
		{order.Pin{Id: 9}, "pin", "pin 9", []int{9}, nil},
		{order.Free{Id: 10}, "free", "free 10", []int{10}, nil},
		{order.Read{Id: 1, At: 20, N: 300}, "read", "read 1 20 300", []int{1, 20, 300}, nil},
		{order.Write{Id: 5, At: -60, Data: "\x00Az\xff"}, "write", "write 5 -60 \u2800\u2841\u287a\u28ff", []int{5, -60}, []string{"\x00Az\xff"}},
		{order.Discard{Id: 7, At: 8, N: -9}, "discard", "discard 7 8 -9", []int{7, 8, -9}, nil},
		{order.Flush{}, "flush", "flush", nil, nil},
		{order.Tick{Pick: math.MaxInt64}, "tick", "tick 9223372036854775807", []int{math.MaxInt64}, nil},
		{order.Decay{}, "decay", "decay", nil, nil},
		{order.Status{}, "status", "status", nil, nil},
		{order.Fuse{N: math.MinInt64}, "fuse", "fuse -9223372036854775808", []int{math.MinInt64}, nil},
		{order.Crash{Slow: "\x01", Fast: "", Meta: "\x80\x7f"}, "crash", "crash \u2801 - \u2880\u287f", nil, []string{"\x01", "", "\x80\x7f"}},
	}
}

// ofChance answers an order with fields of chance, whose texts have at most so many bytes.
func ofChance(chance *rand.Rand, bytes int) order.Order {
	n := func() int {
		all := []int{0, 1, -1, 9, 10, -10, math.MaxInt64, math.MinInt64, chance.Intn(100), int(chance.Uint64()), int(chance.Uint64()) >> chance.Intn(64)}
		return all[chance.Intn(len(all))]
	}
	text := func() string {
		b := make([]byte, chance.Intn(bytes+1))
		chance.Read(b)
		return string(b)
	}
	all := []order.Order{
		order.Create{Id: n(), Size: n()}, order.Delete{Id: n()}, order.Snap{From: n(), To: n()}, order.Resize{Id: n(), Size: n()},
		order.Pin{Id: n()}, order.Free{Id: n()}, order.Read{Id: n(), At: n(), N: n()}, order.Write{Id: n(), At: n(), Data: text()},
		order.Discard{Id: n(), At: n(), N: n()}, order.Flush{}, order.Tick{Pick: n()}, order.Decay{}, order.Status{}, order.Fuse{N: n()},
		order.Crash{Slow: text(), Fast: text(), Meta: text()},
	}
	return all[chance.Intn(len(all))]
}

// wide answers a line with some of its digits as fullwidth ones, as chance has them; the runes of bytes have none.
func wide(line string, chance *rand.Rand) string {
	var out strings.Builder
	for _, r := range line {
		if '0' <= r && r <= '9' && chance.Intn(2) == 0 {
			r += 0xFF10 - '0'
		}
		out.WriteRune(r)
	}
	return out.String()
}

// narrow answers a line with the digits 0 to 9 alone.
func narrow(line string) string {
	return strings.Map(func(r rune) rune {
		if 0xFF10 <= r && r <= 0xFF19 {
			return r - 0xFF10 + '0'
		}
		return r
	}, line)
}

func dots(bytes string) string {
	if bytes == "" {
		return "-"
	}
	out := ""
	for _, b := range []byte(bytes) {
		out += string(rune(0x2800 + int(b)))
	}
	return out
}

// broken answers texts that are no UTF-8, or have a rune of them at an edge.
func broken() []string {
	return []string{
		"\x80", "\xbf", "\xc0\xb1", "\xe0\x80\xb1", "\xe2\xa0", "\xe2", "\xef\xbc", "\xef", "\xed\xa0\x80", "\xf4\x90\x80\x80", "\xff", "\xfe\xff",
		"\uFFFD", "\U0010FFFF", "\x00", "\xf0\x82\xa0\x80",
	}
}

func isNumber(t *testing.T, s string, want int) {
	t.Helper()
	if n, ok := order.Number(s); n != want || !ok {
		t.Fatalf("Number of %q: %d, %v; want %d", s, n, ok, want)
	}
}

func noNumber(t *testing.T, s string) {
	t.Helper()
	if n, ok := order.Number(s); n != 0 || ok {
		t.Fatalf("Number of %q: %d, %v; want none", s, n, ok)
	}
}

func areBytes(t *testing.T, s, want string) {
	t.Helper()
	if b, ok := order.Bytes(s); b != want || !ok {
		t.Fatalf("Bytes of %q: %q, %v; want %q", s, b, ok, want)
	}
}

func noBytes(t *testing.T, s string) {
	t.Helper()
	if b, ok := order.Bytes(s); b != "" || ok {
		t.Fatalf("Bytes of %q: %q, %v; want none", s, b, ok)
	}
}

func noOrder(t *testing.T, line string) {
	t.Helper()
	if o, e := order.Parse(line); o != nil || e != api.ErrForm {
		t.Fatalf("Parse of %q: %v, %d; want none", line, o, e)
	}
}

func isOrder(t *testing.T, line string, want order.Order) {
	t.Helper()
	if o, e := order.Parse(line); o != want || e != api.OK {
		t.Fatalf("Parse of %q: %v, %d; want %v", line, o, e, want)
	}
}

// cannotBe holds a value that is no order that can be against what all calls answer of such a one.
func cannotBe(t *testing.T, name string, o order.Order) {
	t.Helper()
	if s, e := order.Text(o); s != "" || e != api.ErrArg {
		t.Errorf("%s: Text %q, %d", name, s, e)
	}
	if n := order.Numbers(o); len(n) != 0 {
		t.Errorf("%s: Numbers %v", name, n)
	}
	if d := order.Data(o); len(d) != 0 {
		t.Errorf("%s: Data %q", name, d)
	}
	if !panics(o) {
		t.Errorf("%s: Must doesn't panic", name)
	}
}

func panics(x any) (out bool) {
	defer func() { out = recover() != nil }()
	order.Must(x)
	return false
}

// Types that have a Word, and are none of the fifteen.
type (
	alien  struct{ Id, Size int }
	within struct{ order.Create }
	named  order.Pin
)

func (alien) Word() string { return "create" }

func (named) Word() string { panic("nobody asks a stranger's word") }

// P20.1: Word.
func TestWord(t *testing.T) {
	for _, c := range fifteen() {
		if w := c.o.Word(); w != c.word {
			t.Errorf("%#v: %q, want %q", c.o, w, c.word)
		}
	}
	if w := (order.Write{Data: strings.Repeat("x", most+1)}).Word(); w != "write" {
		t.Error("the word of one that can't be", w)
	}
}

// P20.1: Number.
func TestNumber(t *testing.T) {
	for s, want := range map[string]int{
		"0": 0, "7": 7, "10": 10, "-1": -1, "-10": -10, "100200300": 100200300,
		"\uff10": 0, "\uff11\uff10": 10, "-\uff12": -2, "1\uff12": 12, "\uff112": 12, "-9\uff19\u0039": -999,
		"9223372036854775807": math.MaxInt64, "-9223372036854775808": math.MinInt64, "-9223372036854775807": -math.MaxInt64,
		"922337203685477580\uff17": math.MaxInt64, "-922337203685477580\uff18": math.MinInt64,
		"9223372036854775799": 9223372036854775799, "9000000000000000000": 9e18, "2147483648": 1 << 31, "4294967296": 1 << 32,
	} {
		isNumber(t, s, want)
	}
	for _, s := range []string{
		"", "-", "--1", "+1", "-0", "-\uff10", "00", "01", "-01", "0\uff11", "\uff101", "\uff10\uff10", "\uff0d1", "\u22121", "1-", "1 ", " 1", "1\n", "1.0", "1e3", "0x1", "1_0", "a",
		"9223372036854775808", "-9223372036854775809", "922337203685477580\uff18", "9223372036854775810", "-9223372036854775810", "9999999999999999999",
		"18446744073709551615", "18446744073709551616", "18446744073709551617", "-18446744073709551617", "10000000000000000000", "92233720368547758070", "92233720368547758080",
		"18446744073709551616000", "340282366920938463463374607431768211457", strings.Repeat("9", 5000), strings.Repeat("0", 5000), "1" + strings.Repeat("0", 5000),
		"\u0661", "\u06f1", "\u0967", "\u00b2", "\u2460", "\U0001D7CF",
	} {
		noNumber(t, s)
	}
	for _, s := range broken() {
		for _, around := range []string{s, "1" + s, s + "1", "-" + s, "1" + s + "1"} {
			noNumber(t, around)
		}
	}
}

// P20.1: of all runes just twenty are digits.
func TestDigits(t *testing.T) {
	for r := rune(0); r <= utf8.MaxRune; r++ {
		digit := -1
		switch {
		case '0' <= r && r <= '9':
			digit = int(r - '0')
		case 0xFF10 <= r && r <= 0xFF19:
			digit = int(r - 0xFF10)
		}
		s := string(r)
		n, ok := order.Number(s)
		if ok != (digit >= 0) || n != max(digit, 0) {
			t.Fatalf("%U: %d, %v", r, n, ok)
		}
		if n, ok := order.Number("4" + s); ok != (digit >= 0) || ok && n != 40+digit {
			t.Fatalf("4 %U: %d, %v", r, n, ok)
		}
	}
}

// P20.1: each number has its runes, with digits of either kind; and what isn't told so is none.
func TestNumbersOfChance(t *testing.T) {
	chance := rand.New(rand.NewSource(20))
	for range 20000 {
		n := int(chance.Uint64()) >> chance.Intn(64)
		s := strconv.Itoa(n)
		isNumber(t, s, n)
		isNumber(t, wide(s, chance), n)
		noNumber(t, strings.Replace("-0"+s, "-0-", "-0", 1))
	}
	alphabet := []string{"0", "1", "8", "9", "-", "\uff10", "\uff19", " ", "+"}
	for range 50000 {
		s := ""
		for range chance.Intn(4) {
			s += alphabet[chance.Intn(len(alphabet))]
		}
		want, err := strconv.Atoi(narrow(s))
		if err != nil || strconv.Itoa(want) != narrow(s) {
			noNumber(t, s)
		} else {
			isNumber(t, s, want)
		}
	}
	for _, end := range []uint64{1 << 63, 1<<64 - 1, 1 << 32, 1e18, 1e19} {
		// The last of them are beyond 64 bits, and begin at 0 again, where a - has no place.
		for u := end - 1000; u != end+1000 && u > 0; u++ {
			s := strconv.FormatUint(u, 10)
			for _, line := range []string{s, "-" + s} {
				if want, err := strconv.ParseInt(line, 10, 64); err == nil {
					isNumber(t, line, int(want))
				} else {
					noNumber(t, line)
				}
			}
		}
	}
}

// P20.1: Bytes.
func TestBytes(t *testing.T) {
	areBytes(t, "-", "")
	areBytes(t, "\u2800", "\x00")
	areBytes(t, "\u28ff", "\xff")
	areBytes(t, "\u2841\u2842", "AB")
	for _, s := range []string{"", "--", "- ", " -", "-\u2800", "\u2800-", "\u2800 \u2801", "\u2800\n", " ", "A", "\u27ff", "\u2900", "\u2800\u27ff", "\u2900\u2800", "\uff0d", "\u2212"} {
		noBytes(t, s)
	}
	for _, s := range broken() {
		for _, around := range []string{s, "\u2800" + s, s + "\u2800", "\u2800" + s + "\u2800", "-" + s} {
			noBytes(t, around)
		}
	}
	whole := ""
	for b := range 256 {
		whole += string(rune(0x2800 + b))
	}
	got, ok := order.Bytes(whole)
	if !ok || len(got) != 256 {
		t.Fatal(len(got), ok)
	}
	for b := range 256 {
		if got[b] != byte(b) {
			t.Error(b, got[b])
		}
	}
	// Only an order's text has a limit.
	areBytes(t, strings.Repeat("\u2861", 5000), strings.Repeat("a", 5000))
}

// P20.1: of all runes just 256 are a byte's, and - alone is that of none.
func TestRunesOfBytes(t *testing.T) {
	for r := rune(0); r <= utf8.MaxRune; r++ {
		s := string(r)
		switch {
		case 0x2800 <= r && r <= 0x28FF:
			areBytes(t, s, string([]byte{byte(r - 0x2800)}))
			areBytes(t, "\u2861"+s, "a"+string([]byte{byte(r - 0x2800)}))
		case r == '-':
			areBytes(t, s, "")
			noBytes(t, "\u2861"+s)
		default:
			noBytes(t, s)
			noBytes(t, "\u2861"+s)
		}
	}
}

// P20.2: each type's line, numbers and texts.
func TestText(t *testing.T) {
	for _, c := range fifteen() {
		if s, e := order.Text(c.o); s != c.line || e != api.OK {
			t.Errorf("%#v: %q, %d", c.o, s, e)
		}
		if n := order.Numbers(c.o); !slices.Equal(n, c.numbers) {
			t.Errorf("%#v: %v", c.o, n)
		}
		if d := order.Data(c.o); !slices.Equal(d, c.texts) {
			t.Errorf("%#v: %q", c.o, d)
		}
		isOrder(t, c.line, c.o)
	}
	if s, e := order.Text(order.Write{}); s != "write 0 0 -" || e != api.OK {
		t.Errorf("%q, %d", s, e)
	}
	if s, e := order.Text(order.Crash{}); s != "crash - - -" || e != api.OK {
		t.Errorf("%q, %d", s, e)
	}
	if d := order.Data(order.Crash{}); !slices.Equal(d, []string{"", "", ""}) {
		t.Errorf("%q", d)
	}
}

// P20.2: what is no order that can be.
func TestCannotBe(t *testing.T) {
	long := strings.Repeat("\xff", most+1)
	for name, o := range map[string]order.Order{
		"nil": nil, "alien": alien{1, 2}, "within": within{order.Create{Id: 1, Size: 2}}, "named": named{1}, "pointer to alien": &alien{1, 2},
		"write": order.Write{Id: 1, Data: long}, "crash slow": order.Crash{Slow: long}, "crash fast": order.Crash{Fast: long}, "crash meta": order.Crash{Meta: long},
		"much longer": order.Write{Data: strings.Repeat("x", 1<<20)},
		"create":      &order.Create{Id: 1}, "delete": &order.Delete{}, "snap": &order.Snap{}, "resize": &order.Resize{}, "pin": &order.Pin{}, "free": &order.Free{},
		"read": &order.Read{}, "pointer to write": &order.Write{}, "discard": &order.Discard{}, "flush": &order.Flush{}, "tick": &order.Tick{}, "decay": &order.Decay{},
		"status": &order.Status{}, "fuse": &order.Fuse{}, "crash": &order.Crash{}, "nil pointer": (*order.Flush)(nil), "nil pointer to write": (*order.Write)(nil),
	} {
		cannotBe(t, name, o)
	}
}

// P20.2: the limit of a text, for each of them on its own.
func TestLimit(t *testing.T) {
	for _, n := range []int{most - 1, most} {
		text := strings.Repeat("\xfe", n)
		for _, o := range []order.Order{order.Write{Data: text}, order.Crash{Slow: text}, order.Crash{Fast: text}, order.Crash{Meta: text}, order.Crash{Slow: text, Fast: text, Meta: text}} {
			s, e := order.Text(o)
			if e != api.OK {
				t.Fatal(n, e)
			}
			isOrder(t, s, o)
			if panics(o) {
				t.Error(n, "Must panics")
			}
		}
	}
	long, short := dots(strings.Repeat("\x00", most+1)), dots(strings.Repeat("\x00", most))
	isOrder(t, "write 1 2 "+short, order.Write{Id: 1, At: 2, Data: strings.Repeat("\x00", most)})
	for _, line := range []string{"write 1 2 " + long, "crash " + long + " - -", "crash - " + long + " -", "crash - - " + long, "crash " + short + " " + short + " " + long} {
		noOrder(t, line)
	}
}

// P20.2: each word takes as many numbers and texts as it has fields, in their order, and nothing else.
func TestShapes(t *testing.T) {
	for _, c := range fifteen() {
		want := strings.Repeat("n", len(c.numbers)) + strings.Repeat("t", len(c.texts))
		for _, shape := range shapes(5) {
			line := c.word
			for i, kind := range shape {
				if kind == 'n' {
					line += " " + strconv.Itoa(i+1)
				} else {
					line += " " + dots(strconv.Itoa(i))
				}
			}
			if shape != want {
				noOrder(t, line)
				continue
			}
			o, e := order.Parse(line)
			if e != api.OK || o.Word() != c.word {
				t.Fatalf("%q: %v, %d", line, o, e)
			}
			for i, n := range order.Numbers(o) {
				if n != i+1 {
					t.Errorf("%q: %v", line, o)
				}
			}
			for i, d := range order.Data(o) {
				if d != strconv.Itoa(len(c.numbers)+i) {
					t.Errorf("%q: %v", line, o)
				}
			}
		}
	}
}

// shapes answers all rows of at most so many n and t.
func shapes(most int) []string {
	all, last := []string{""}, []string{""}
	for range most {
		next := []string{}
		for _, s := range last {
			next = append(next, s+"n", s+"t")
		}
		all = append(all, next...)
		last = next
	}
	return all
}

// P20.2: lines that are no order's.
func TestNoLines(t *testing.T) {
	for _, s := range []string{
		"", " ", "-", "?", "? 3", "\n", "flushed", "flus", "Flush", "FLUSH", "create 1 8 ", " create 1 8", "create  1 8", "create 1  8", "create\t1 8", "create 1\t8", "create 1\u00a08", "create 1\u30008",
		"create 1 8\n", "create 1 8\r", "create,1,8", "create 1", "create", "create 1 8 9", "create 1 8 9 9 9 9 9", "flush ", "flush 1", "flush -", "tick +1", "tick -0", "tick \uff0d1", "tick 01",
		"tick 9223372036854775808", "tick", "tick ", "write 1 2", "write 1 2 ", "write 1 2 a", "write 1 2 \u2800-", "write 1 2 \u2800 \u2800", "write 1 \u2800", "write \u2800 1 2", "write 1 2 3",
		"crash", "crash - -", "crash - - - -", "crash - - -\u2800", "crash 1 2 3", "\uff46lush", "flush\x00", "\xfflush", "write 1 2 \xe2\xa0", "tick \xef\xbc", "order.Flush", "word",
	} {
		noOrder(t, s)
	}
	for _, c := range fifteen() {
		for _, s := range append(broken(), " ", "\t", "\n", "x", "+") {
			noOrder(t, c.line+s)
			noOrder(t, s+c.line)
		}
	}
	noOrder(t, strings.Repeat(" ", 1<<20))
	noOrder(t, "create 1 8"+strings.Repeat(" 1", 1<<20))
	noOrder(t, strings.Repeat("flush", 1<<18))
}

// P20.3.
func TestMust(t *testing.T) {
	for _, c := range fifteen() {
		if panics(c.o) || order.Must(c.o) != c.o {
			t.Errorf("Must of %#v", c.o)
		}
	}
	for i, x := range []any{nil, 5, "flush", true, []order.Order{order.Flush{}}, struct{}{}, func() {}, api.OK, map[int]int{}, error(nil), &fifteen()[0].o} {
		if !panics(x) {
			t.Error(i, "Must doesn't panic")
		}
	}
}

// P20.4: what was told is read as it was.
func TestToldIsRead(t *testing.T) {
	chance := rand.New(rand.NewSource(21))
	for range 20000 {
		o := ofChance(chance, 20)
		s, e := order.Text(o)
		if e != api.OK {
			t.Fatalf("%#v: %d", o, e)
		}
		want := o.Word()
		for _, n := range order.Numbers(o) {
			want += " " + strconv.Itoa(n)
		}
		for _, d := range order.Data(o) {
			want += " " + dots(d)
		}
		if s != want {
			t.Fatalf("%#v: %q, want %q", o, s, want)
		}
		isOrder(t, s, o)
		isOrder(t, wide(s, chance), o)
	}
}

// P20.4: of any line that is read the order is told as that line, by the digits 0 to 9; and lines that differ in more than that are other orders.
func TestReadIsTold(t *testing.T) {
	chance := rand.New(rand.NewSource(22))
	insert := []string{" ", "-", "0", "1", "\uff10", "\uff17", "\u2800", "\u28ff", "x", "\xff", ""}
	read := 0
	for range 60000 {
		s, _ := order.Text(ofChance(chance, 4))
		at := []rune(wide(s, chance))
		for range 1 + chance.Intn(2) {
			i := chance.Intn(len(at) + 1)
			j := min(len(at), i+chance.Intn(2))
			at = []rune(string(at[:i]) + insert[chance.Intn(len(insert))] + string(at[j:]))
		}
		line := string(at)
		o, e := order.Parse(line)
		if e != api.OK {
			if o != nil || e != api.ErrForm {
				t.Fatalf("%q: %v, %d", line, o, e)
			}
			continue
		}
		read++
		if s, e := order.Text(o); s != narrow(line) || e != api.OK {
			t.Fatalf("%q was read, and told as %q, %d", line, s, e)
		}
	}
	if read < 5000 {
		t.Error("hardly a line was read", read)
	}
}

// Rules 3 and 4: answers are new memory, and the same again.
func TestNewMemory(t *testing.T) {
	for _, c := range fifteen() {
		n, d := order.Numbers(c.o), order.Data(c.o)
		for i := range n {
			n[i]++
		}
		for i := range d {
			d[i] = "else"
		}
		if n, d := order.Numbers(c.o), order.Data(c.o); !slices.Equal(n, c.numbers) || !slices.Equal(d, c.texts) {
			t.Errorf("%#v: %v, %q", c.o, n, d)
		}
		isOrder(t, c.line, c.o)
	}
}

// The chapter's example.
func TestExample(t *testing.T) {
	isOrder(t, "create 1 8", order.Create{Id: 1, Size: 8})
	isOrder(t, "create \uff11 \uff18", order.Create{Id: 1, Size: 8})
}
