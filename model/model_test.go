package model_test

import (
	"math"
	"slices"
	"strings"
	"testing"

	"tierce/api"
	"tierce/model"
	"tierce/order"
)

// P22.1: New.
func TestNew(t *testing.T) {
	for _, size := range append(ends(), 0, maxChunk+1, maxChunk+2) {
		if model.New(size) != nil {
			t.Error(size, "there is a model")
		}
	}
	for size := 1; size <= maxChunk; size++ {
		m := model.New(size)
		if m == nil || len(m.Volumes()) != 0 || len(m.Dump()) != 0 || m.Count() != 0 {
			t.Fatal(size, "there is no empty model")
		}
		// A chunk has just so many sectors.
		asked(t, m, order.Create{Id: 1, Size: 3}, order.Write{Id: 1, At: size - 1, Data: secs("ab")})
		if m.Count() != 2 || len(m.Dump()[0]) != 3*size*sectorSize {
			t.Error(size, m.Count(), len(m.Dump()[0]))
		}
	}
}

// P22.1: the errors, and that they change nothing.
func TestErrors(t *testing.T) {
	m := made(t, 4,
		order.Create{Id: 1, Size: 3}, order.Write{Id: 1, At: 2, Data: secs("abcd")}, order.Snap{From: 1, To: 2}, order.Pin{Id: 2},
		order.Create{Id: 3, Size: 0}, order.Create{Id: 16, Size: 64}, order.Write{Id: 16, At: 255, Data: secs("z")})
	was := state(m, 4)
	for _, c := range []struct {
		want api.Errno
		list []order.Order
	}{
		{api.ErrArg, []order.Order{
			order.Create{Id: 0, Size: 1}, order.Create{Id: 17, Size: 1}, order.Create{Id: 4, Size: -1}, order.Create{Id: 4, Size: 65},
			order.Create{Id: 1, Size: -1}, order.Create{Id: 1, Size: 65}, // ahead of ErrDup
			order.Snap{From: 1, To: 0}, order.Snap{From: 1, To: 17}, order.Snap{From: 1, To: -1},
			order.Resize{Id: 1, Size: -1}, order.Resize{Id: 1, Size: 65},
			order.Read{Id: 1, At: -1, N: 1}, order.Read{Id: 1, At: 0, N: 0}, order.Read{Id: 1, At: 0, N: -1}, order.Read{Id: 1, At: 0, N: 9},
			order.Read{Id: 1, At: 100, N: 0}, order.Read{Id: 1, At: 100, N: 9}, // ahead of ErrRange
			order.Read{Id: 3, At: 0, N: 0}, order.Read{Id: 3, At: -1, N: 1},
			order.Discard{Id: 1, At: -1, N: 1}, order.Discard{Id: 1, At: 0, N: 0}, order.Discard{Id: 1, At: 0, N: -1}, order.Discard{Id: 1, At: 0, N: 9},
			order.Discard{Id: 1, At: 100, N: 0}, order.Discard{Id: 1, At: 100, N: 9},
			order.Write{Id: 1, At: 0, Data: ""}, order.Write{Id: 1, At: 0, Data: "x"}, order.Write{Id: 1, At: 0, Data: secs("ab")[1:]}, order.Write{Id: 1, At: 0, Data: secs("ab") + "c"},
			order.Write{Id: 1, At: -1, Data: secs("a")}, order.Write{Id: 1, At: 0, Data: secs("abcdefghi")}, order.Write{Id: 1, At: 100, Data: "x"}, order.Write{Id: 1, At: 100, Data: ""},
		}},
		{api.ErrDup, []order.Order{
			order.Create{Id: 1, Size: 3}, order.Create{Id: 2, Size: 0}, order.Create{Id: 16, Size: 64}, order.Snap{From: 1, To: 1}, order.Snap{From: 1, To: 2}, order.Snap{From: 2, To: 16},
		}},
		{api.ErrMiss, []order.Order{
			order.Delete{Id: 4}, order.Delete{Id: 0}, order.Delete{Id: 17}, order.Delete{Id: -1},
			order.Snap{From: 4, To: 5}, order.Snap{From: 4, To: 0}, order.Snap{From: 4, To: 1}, order.Snap{From: 0, To: 4}, order.Snap{From: 17, To: 4}, // ahead of ErrArg, ErrDup
			order.Resize{Id: 4, Size: 1}, order.Resize{Id: 4, Size: 65}, order.Resize{Id: 17, Size: -1}, order.Resize{Id: 0, Size: 1},
			order.Pin{Id: 4}, order.Pin{Id: 0}, order.Pin{Id: 17}, order.Free{Id: 4}, order.Free{Id: 0}, order.Free{Id: 17},
			order.Read{Id: 4, At: 0, N: 1}, order.Read{Id: 4, At: -1, N: 0}, order.Read{Id: 0, At: 0, N: 1}, order.Read{Id: 17, At: 0, N: 1},
			order.Discard{Id: 4, At: 0, N: 1}, order.Discard{Id: 4, At: -1, N: 0}, order.Discard{Id: 0, At: 0, N: 1}, order.Discard{Id: 17, At: 0, N: 1},
			order.Write{Id: 4, At: 0, Data: secs("a")}, order.Write{Id: 4, At: -1, Data: "x"}, order.Write{Id: 0, At: 0, Data: ""}, order.Write{Id: 17, At: 0, Data: secs("a")},
		}},
		{api.ErrRange, []order.Order{
			order.Read{Id: 1, At: 12, N: 1}, order.Read{Id: 1, At: 5, N: 8}, order.Read{Id: 3, At: 0, N: 1}, order.Read{Id: 16, At: 256, N: 1}, order.Read{Id: 16, At: 249, N: 8}, order.Read{Id: 1, At: math.MaxInt, N: 8},
			order.Discard{Id: 1, At: 12, N: 1}, order.Discard{Id: 1, At: 5, N: 8}, order.Discard{Id: 3, At: 0, N: 1}, order.Discard{Id: 16, At: 249, N: 8}, order.Discard{Id: 1, At: math.MaxInt, N: 8},
			order.Write{Id: 1, At: 12, Data: secs("a")}, order.Write{Id: 1, At: 11, Data: secs("ab")}, order.Write{Id: 3, At: 0, Data: secs("a")}, order.Write{Id: 1, At: math.MaxInt, Data: secs("abcdefgh")},
		}},
	} {
		for _, o := range c.list {
			if n := m.Wants(o); n != 0 {
				t.Errorf("Wants of %#v: %d", o, n)
			}
			answers(t, m, o, model.Answer{Err: c.want})
			if state(m, 4) != was {
				t.Fatalf("%#v changed something", o)
			}
		}
	}
}

// P22.1: the numbers of each order at the ends of their type.
func TestEnds(t *testing.T) {
	m := made(t, 2, order.Create{Id: 1, Size: 3}, order.Write{Id: 1, At: 1, Data: secs("ab")}, order.Snap{From: 1, To: 2})
	r := newRows(2)
	for _, o := range []order.Order{order.Create{Id: 1, Size: 3}, order.Write{Id: 1, At: 1, Data: secs("ab")}, order.Snap{From: 1, To: 2}} {
		r.do(o)
	}
	for _, n := range ends() {
		for _, k := range append(ends(), 0, 1, 2) {
			for _, o := range []order.Order{
				order.Create{Id: n, Size: k}, order.Create{Id: k, Size: n}, order.Delete{Id: n}, order.Snap{From: n, To: k}, order.Snap{From: k, To: n}, order.Resize{Id: n, Size: k}, order.Resize{Id: k, Size: n},
				order.Pin{Id: n}, order.Free{Id: n}, order.Read{Id: n, At: k, N: k}, order.Read{Id: 1, At: n, N: k}, order.Read{Id: 1, At: k, N: n}, order.Discard{Id: 1, At: n, N: k}, order.Discard{Id: 1, At: k, N: n},
				order.Discard{Id: n, At: k, N: 1}, order.Write{Id: n, At: k, Data: secs("x")}, order.Write{Id: 2, At: n, Data: secs("xy")},
			} {
				if r.does(t, m, o) == api.OK {
					t.Fatalf("%#v is OK", o)
				}
			}
		}
	}
	r.agrees(t, m)
}

// Types that have a Word, and are none of the fifteen.
type (
	alien  struct{ Id, Size int }
	within struct{ order.Create }
	named  order.Pin
	list   []int // two of them can't be compared
)

func (alien) Word() string { return "create" }

func (named) Word() string { panic("nobody asks a stranger's word") }

func (list) Word() string { return "flush" }

// strangers answers what is no order that can be.
func strangers() map[string]order.Order {
	long := strings.Repeat("\x00", most+1)
	return map[string]order.Order{
		"nil": nil, "alien": alien{4, 2}, "within": within{order.Create{Id: 4, Size: 2}}, "named": named{1}, "pointer to alien": &alien{4, 2}, "list": list{1}, "no list": list(nil),
		"write": order.Write{Id: 1, Data: long}, "write, whole sectors": order.Write{Id: 1, Data: zeros(33)}, "write to none": order.Write{Id: 9, Data: long}, "much longer": order.Write{Id: 1, Data: zeros(1 << 12)},
		"crash slow": order.Crash{Slow: long}, "crash fast": order.Crash{Fast: long}, "crash meta": order.Crash{Meta: long},
		"create": &order.Create{Id: 4, Size: 1}, "delete": &order.Delete{Id: 1}, "snap": &order.Snap{From: 1, To: 4}, "resize": &order.Resize{Id: 1}, "pin": &order.Pin{Id: 1}, "free": &order.Free{Id: 1},
		"read": &order.Read{Id: 1, N: 1}, "pointer to write": &order.Write{Id: 1, Data: zeros(1)}, "discard": &order.Discard{Id: 1, N: 1}, "flush": &order.Flush{}, "tick": &order.Tick{},
		"decay": &order.Decay{}, "status": &order.Status{}, "fuse": &order.Fuse{}, "crash": &order.Crash{},
		"nil pointer": (*order.Status)(nil), "nil pointer to write": (*order.Write)(nil),
	}
}

// P22.1, P22.2: what is no order that can be.
func TestCannotBe(t *testing.T) {
	m := made(t, 2, order.Create{Id: 1, Size: 3}, order.Write{Id: 1, At: 1, Data: secs("ab")}, order.Snap{From: 1, To: 2})
	was := state(m, 2)
	for name, o := range strangers() {
		if n := m.Wants(o); n != 0 {
			t.Errorf("%s: Wants %d", name, n)
		}
		a := m.Do(o)
		if a.Err != api.ErrArg || a.Data != "" || len(a.Vols) != 0 {
			t.Errorf("%s: %v", name, a)
		}
		if state(m, 2) != was {
			t.Fatalf("%s changed something", name)
		}
	}
	// Just as long as can be: it is the range that isn't.
	answers(t, m, order.Write{Id: 9, Data: zeros(32)}, model.Answer{Err: api.ErrMiss})
	answers(t, m, order.Write{Id: 1, Data: zeros(32)}, model.Answer{Err: api.ErrArg})
}

// P22.1: the orders of which a model knows nothing.
func TestOthers(t *testing.T) {
	for _, m := range []*model.Model{model.New(2), made(t, 2, order.Create{Id: 1, Size: 3}, order.Write{Id: 1, At: 1, Data: secs("ab")}, order.Snap{From: 1, To: 2}, order.Pin{Id: 1})} {
		was := state(m, 2)
		for _, o := range others() {
			if n := m.Wants(o); n != 0 {
				t.Errorf("Wants of %#v: %d", o, n)
			}
			answers(t, m, o, model.Answer{})
			if state(m, 2) != was {
				t.Fatalf("%#v changed something", o)
			}
		}
	}
}

// P22.1: what orders do to volumes.
func TestVolumes(t *testing.T) {
	m := model.New(1)
	answers(t, m, order.Status{}, model.Answer{})
	asked(t, m, order.Create{Id: 16, Size: 64}, order.Create{Id: 3, Size: 2}, order.Create{Id: 1, Size: 0}, order.Pin{Id: 3}, order.Snap{From: 3, To: 2}, order.Pin{Id: 2}, order.Snap{From: 2, To: 9})
	answers(t, m, order.Status{}, model.Answer{Vols: []api.Volume{
		{Id: 1}, {Id: 2, Size: 2, Pinned: true, From: 3}, {Id: 3, Size: 2, Pinned: true}, {Id: 9, Size: 2, From: 2}, {Id: 16, Size: 64},
	}})
	asked(t, m, order.Free{Id: 3}, order.Free{Id: 3}, order.Pin{Id: 2}, order.Delete{Id: 3}, order.Resize{Id: 2, Size: 5}, order.Resize{Id: 16, Size: 0}, order.Delete{Id: 1})
	want := []api.Volume{{Id: 2, Size: 5, Pinned: true, From: 3}, {Id: 9, Size: 2, From: 2}, {Id: 16}}
	answers(t, m, order.Status{}, model.Answer{Vols: want})
	if got := m.Volumes(); !slices.Equal(got, want) {
		t.Error(got)
	}
	if d := m.Dump(); !slices.Equal(d, []string{zeros(5), zeros(2), ""}) {
		t.Errorf("%q", d)
	}
	// One of that Id, once more, has nothing of the one that went.
	asked(t, m, order.Write{Id: 2, At: 0, Data: secs("ab")}, order.Delete{Id: 2}, order.Create{Id: 2, Size: 3}, order.Create{Id: 3, Size: 1})
	want = []api.Volume{{Id: 2, Size: 3}, {Id: 3, Size: 1}, {Id: 9, Size: 2, From: 2}, {Id: 16}}
	answers(t, m, order.Status{}, model.Answer{Vols: want})
	if d := m.Dump(); d[0] != zeros(3) || m.Count() != 0 {
		t.Errorf("%q, %d", d, m.Count())
	}
}

// P22.1: each range of sectors, of chunks of each size.
func TestRanges(t *testing.T) {
	for size := 1; size <= maxChunk; size++ {
		for at := range 3*size + 1 {
			for n := 1; n <= 2*size; n++ {
				m, r := made(t, size, order.Create{Id: 1, Size: 3}), newRows(size)
				r.do(order.Create{Id: 1, Size: 3})
				data := secs("abcdefghijklmnop"[:n])
				for _, o := range []order.Order{
					order.Write{Id: 1, At: at, Data: data}, order.Read{Id: 1, At: at, N: n}, order.Snap{From: 1, To: 2},
					order.Write{Id: 2, At: size / 2, Data: secs("xyxyxyxyxyxyxyxy"[:2*size])}, order.Snap{From: 2, To: 3},
					order.Discard{Id: 2, At: at, N: n}, order.Read{Id: 2, At: at, N: n}, order.Write{Id: 1, At: at, Data: data}, order.Discard{Id: 1, At: at, N: n}, order.Discard{Id: 1, At: at, N: n},
				} {
					r.does(t, m, o)
					r.agrees(t, m)
				}
			}
		}
	}
}

// P22.1: Resize keeps what stands ahead of the end, and nothing behind it.
func TestResize(t *testing.T) {
	m := made(t, 2, order.Create{Id: 1, Size: 3}, order.Write{Id: 1, At: 1, Data: secs("ab")}, order.Write{Id: 1, At: 5, Data: secs("c")}, order.Snap{From: 1, To: 2})
	for _, c := range []struct {
		size, count int
		want        string
	}{{3, 3, "\x00ab\x00\x00c"}, {2, 3, "\x00ab\x00"}, {4, 3, "\x00ab\x00\x00\x00\x00\x00"}, {1, 3, "\x00a"}, {0, 3, ""}, {3, 3, "\x00\x00\x00\x00\x00\x00"}} {
		asked(t, m, order.Resize{Id: 2, Size: c.size})
		if d := m.Dump(); m.Count() != c.count || d[0] != secs("\x00ab\x00\x00c") || d[1] != secs(c.want) {
			t.Errorf("%d: %d, %s", c.size, m.Count(), short(d...))
		}
	}
	asked(t, m, order.Resize{Id: 1, Size: 1})
	if m.Count() != 1 {
		t.Error(m.Count())
	}
}

// P22.2: Wants, by hand.
func TestWants(t *testing.T) {
	m := made(t, 2,
		order.Create{Id: 1, Size: 6}, order.Write{Id: 1, At: 0, Data: secs("abcd")}, order.Write{Id: 1, At: 4, Data: secs("e")}, order.Write{Id: 1, At: 8, Data: secs("fg")},
		order.Snap{From: 1, To: 2}, order.Write{Id: 2, At: 0, Data: secs("x")}, order.Discard{Id: 2, At: 4, N: 2})
	// Of both volumes: the place 0 has a chunk of its own, 1 a shared one, 2 one of its own or none, 3 none, 4 a shared one, 5 none.
	for _, c := range []struct {
		o    order.Order
		want int
	}{
		{order.Write{Id: 1, At: 0, Data: secs("z")}, 0}, {order.Write{Id: 1, At: 1, Data: secs("z")}, 0}, {order.Write{Id: 1, At: 0, Data: secs("zz")}, 0},
		{order.Write{Id: 1, At: 2, Data: secs("z")}, 1}, {order.Write{Id: 1, At: 2, Data: secs("zz")}, 1}, {order.Write{Id: 1, At: 1, Data: secs("zz")}, 1}, {order.Write{Id: 2, At: 1, Data: secs("zzz")}, 1},
		{order.Write{Id: 1, At: 3, Data: secs("zz")}, 1}, {order.Write{Id: 2, At: 3, Data: secs("zz")}, 2}, {order.Write{Id: 2, At: 2, Data: secs("zzzz")}, 2},
		{order.Write{Id: 1, At: 6, Data: secs("z")}, 1}, {order.Write{Id: 1, At: 6, Data: zeros(2)}, 1}, {order.Write{Id: 1, At: 7, Data: zeros(2)}, 2}, {order.Write{Id: 1, At: 7, Data: secs("zzzz")}, 3},
		{order.Write{Id: 1, At: 5, Data: secs("zzzz")}, 2}, {order.Write{Id: 1, At: 9, Data: secs("zzz")}, 2}, {order.Write{Id: 1, At: 10, Data: secs("zz")}, 1},
		{order.Discard{Id: 1, At: 0, N: 1}, 0}, {order.Discard{Id: 1, At: 0, N: 2}, 0},
		{order.Discard{Id: 1, At: 2, N: 1}, 1}, {order.Discard{Id: 1, At: 3, N: 1}, 1}, {order.Discard{Id: 1, At: 2, N: 2}, 0}, {order.Discard{Id: 1, At: 1, N: 2}, 1}, {order.Discard{Id: 1, At: 1, N: 3}, 0}, {order.Discard{Id: 1, At: 0, N: 3}, 1},
		{order.Discard{Id: 2, At: 3, N: 2}, 1}, {order.Discard{Id: 2, At: 4, N: 1}, 0}, {order.Discard{Id: 1, At: 6, N: 1}, 0}, {order.Discard{Id: 1, At: 7, N: 2}, 1}, {order.Discard{Id: 1, At: 7, N: 3}, 0}, {order.Discard{Id: 1, At: 9, N: 2}, 1},
		{order.Read{Id: 1, At: 2, N: 1}, 0}, {order.Create{Id: 3, Size: 5}, 0}, {order.Snap{From: 1, To: 3}, 0}, {order.Resize{Id: 1, Size: 1}, 0}, {order.Delete{Id: 1}, 0}, {order.Pin{Id: 1}, 0}, {order.Free{Id: 1}, 0}, {order.Status{}, 0},
	} {
		was := state(m, 2)
		if n := m.Wants(c.o); n != c.want {
			t.Errorf("%#v: %d; want %d", c.o, n, c.want)
		}
		if state(m, 2) != was {
			t.Fatalf("Wants of %#v changed something", c.o)
		}
		next := m.Copy()
		asked(t, next, c.o)
		if _, is := c.o.(order.Write); is && next.Count() != m.Count()+c.want {
			t.Errorf("%#v: %d chunks behind %d", c.o, next.Count(), m.Count())
		}
	}
	// What is let go isn't set against what is wanted.
	asked(t, m, order.Discard{Id: 1, At: 0, N: 3})
	if m.Count() != 5 {
		t.Error(m.Count())
	}
}

// P22.2: a chunk isn't shared any more, when the other volume let it go, in whatever way.
func TestSharedNoMore(t *testing.T) {
	for _, o := range []order.Order{
		order.Delete{Id: 2}, order.Resize{Id: 2, Size: 0}, order.Resize{Id: 2, Size: 1}, order.Discard{Id: 2, At: 2, N: 2}, order.Write{Id: 2, At: 2, Data: secs("x")}, order.Discard{Id: 2, At: 3, N: 1},
	} {
		m := made(t, 2, order.Create{Id: 1, Size: 2}, order.Write{Id: 1, At: 2, Data: secs("ab")}, order.Snap{From: 1, To: 2})
		if m.Wants(order.Write{Id: 1, At: 2, Data: secs("z")}) != 1 || m.Wants(order.Discard{Id: 1, At: 2, N: 1}) != 1 || m.Count() != 1 {
			t.Fatal("it isn't shared")
		}
		asked(t, m, o)
		if m.Wants(order.Write{Id: 1, At: 2, Data: secs("z")}) != 0 || m.Wants(order.Discard{Id: 1, At: 2, N: 1}) != 0 {
			t.Errorf("%#v: it is shared", o)
		}
		if d := m.Dump()[0]; d != zeros(2)+secs("ab") {
			t.Errorf("%#v: %s", o, short(d))
		}
	}
}

// P22.2: as many chunks as there can be.
func TestMost(t *testing.T) {
	m := model.New(maxChunk)
	for id := 1; id <= maxVolumes; id++ {
		asked(t, m, order.Create{Id: id, Size: maxSize})
		for at := range maxSize {
			data := secs(strings.Repeat(string(rune('A'+id)), maxChunk))
			asked(t, m, order.Write{Id: id, At: at * maxChunk, Data: data})
		}
	}
	if m.Count() != maxVolumes*maxSize {
		t.Error(m.Count())
	}
	for i, d := range m.Dump() {
		if d != secs(strings.Repeat(string(rune('B'+i)), maxChunk*maxSize)) {
			t.Error(i)
		}
	}
	for id := 2; id <= maxVolumes; id++ {
		asked(t, m, order.Delete{Id: id}, order.Snap{From: id - 1, To: id})
	}
	if m.Count() != maxSize {
		t.Error(m.Count())
	}
}

// P22.2: a Copy is the same, shared chunks too, and goes its own way.
func TestCopy(t *testing.T) {
	change := []order.Order{
		order.Create{Id: 4, Size: 1}, order.Delete{Id: 1}, order.Snap{From: 1, To: 4}, order.Resize{Id: 1, Size: 1}, order.Resize{Id: 1, Size: 9}, order.Pin{Id: 1}, order.Free{Id: 2},
		order.Write{Id: 1, At: 0, Data: secs("z")}, order.Write{Id: 1, At: 3, Data: secs("zz")}, order.Write{Id: 3, At: 0, Data: secs("z")}, order.Discard{Id: 1, At: 0, N: 2}, order.Discard{Id: 1, At: 1, N: 1}, order.Discard{Id: 2, At: 2, N: 1},
	}
	for _, o := range change {
		m := made(t, 2, order.Create{Id: 1, Size: 3}, order.Write{Id: 1, At: 0, Data: secs("abcd")}, order.Snap{From: 1, To: 2}, order.Write{Id: 2, At: 0, Data: secs("x")}, order.Pin{Id: 2}, order.Create{Id: 3, Size: 2})
		was := state(m, 2)
		c := m.Copy()
		if state(c, 2) != was || !model.Same(m, c) || !model.Same(c, m) {
			t.Fatal("the copy is another one")
		}
		asked(t, c, o)
		if state(m, 2) != was {
			t.Fatalf("%#v in the copy changed the model", o)
		}
		next := state(c, 2)
		if next == was || model.Same(m, c) || model.Same(c, m) {
			t.Fatalf("%#v changed nothing", o)
		}
		asked(t, m, o)
		if state(c, 2) != next || state(m, 2) != next || !model.Same(m, c) {
			t.Fatalf("%#v does something else to a model than to its copy", o)
		}
	}
}

// P22.2: a Copy's Restore, and a Copy of one that was Restored.
func TestCopyAndRestore(t *testing.T) {
	m := made(t, 1, order.Create{Id: 1, Size: 1}, order.Write{Id: 1, At: 0, Data: secs("a")}, order.Snap{From: 1, To: 2})
	c := m.Copy()
	if !c.Restore([]string{secs("b"), secs("b")}) || m.Dump()[0] != secs("a") || c.Dump()[1] != secs("b") || model.Same(m, c) {
		t.Error(short(m.Dump()...), short(c.Dump()...))
	}
	d := c.Copy()
	if !c.Restore([]string{secs("c"), secs("c")}) || d.Dump()[0] != secs("b") || d.Count() != 1 {
		t.Error(short(c.Dump()...), short(d.Dump()...))
	}
}

// P22.2: what makes two models Same, and what doesn't.
func TestSame(t *testing.T) {
	base := []order.Order{order.Create{Id: 1, Size: 2}, order.Write{Id: 1, At: 1, Data: secs("a")}}
	m := made(t, 2, base...)
	for _, more := range [][]order.Order{
		{order.Pin{Id: 1}}, {order.Resize{Id: 1, Size: 1}}, {order.Resize{Id: 1, Size: 3}}, {order.Write{Id: 1, At: 3, Data: secs("\x01")}}, {order.Discard{Id: 1, At: 1, N: 1}},
		{order.Create{Id: 2, Size: 0}}, {order.Delete{Id: 1}}, {order.Snap{From: 1, To: 2}}, {order.Write{Id: 1, At: 1, Data: secs("a")[1:] + "b"}},
		{order.Snap{From: 1, To: 2}, order.Delete{Id: 1}, order.Snap{From: 2, To: 1}, order.Delete{Id: 2}}, // it is from 2
		{order.Snap{From: 1, To: 2}, order.Delete{Id: 1}},
	} {
		other := made(t, 2, slices.Concat(base, more)...)
		if model.Same(m, other) || model.Same(other, m) {
			t.Errorf("%#v: the same", more)
		}
	}
	// Which chunks there are, and how they came to be, plays no part.
	for _, more := range [][]order.Order{
		nil, {order.Flush{}}, {order.Write{Id: 1, At: 1, Data: secs("a")}}, {order.Write{Id: 1, At: 2, Data: zeros(2)}}, {order.Pin{Id: 1}, order.Free{Id: 1}},
		{order.Snap{From: 1, To: 2}, order.Write{Id: 1, At: 0, Data: zeros(1)}, order.Delete{Id: 2}}, {order.Delete{Id: 1}, base[0], base[1]}, {order.Resize{Id: 1, Size: 9}, order.Resize{Id: 1, Size: 2}},
	} {
		other := made(t, 2, slices.Concat(base, more)...)
		if !model.Same(m, other) || !model.Same(other, m) || !model.Same(other, other) {
			t.Errorf("%#v: not the same", more)
		}
	}
	shared := made(t, 2, slices.Concat(base, []order.Order{order.Snap{From: 1, To: 2}})...)
	parted := made(t, 2, slices.Concat(base, []order.Order{order.Snap{From: 1, To: 2}, order.Write{Id: 2, At: 1, Data: secs("a")}})...)
	if !model.Same(shared, parted) || shared.Count() != 1 || parted.Count() != 2 {
		t.Error("not the same", shared.Count(), parted.Count())
	}
	// Nor does the size of chunks, where volumes and sectors are the same.
	if !model.Same(model.New(1), model.New(8)) || !model.Same(made(t, 3, order.Create{Id: 5}), made(t, 4, order.Create{Id: 5})) {
		t.Error("the size plays a part")
	}
	if model.Same(made(t, 1, order.Create{Id: 1, Size: 2}), made(t, 2, order.Create{Id: 1, Size: 2})) || model.Same(made(t, 1, order.Create{Id: 1, Size: 2}), made(t, 2, order.Create{Id: 1, Size: 1})) {
		t.Error("the size plays no part")
	}
}

// P22.1, P22.2, P22.4: of nil.
func TestNil(t *testing.T) {
	var m *model.Model
	for _, o := range append(others(), order.Create{Id: 1, Size: 1}, order.Delete{Id: 1}, order.Snap{From: 1, To: 2}, order.Resize{Id: 1}, order.Pin{Id: 1}, order.Free{Id: 1},
		order.Read{Id: 1, N: 1}, order.Write{Id: 1, Data: secs("a")}, order.Discard{Id: 1, N: 1}, order.Status{}, nil, alien{1, 2}, &order.Flush{}, order.Write{Data: zeros(40)}) {
		answers(t, m, o, model.Answer{Err: api.ErrNil})
		if n := m.Wants(o); n != 0 {
			t.Errorf("Wants of %#v: %d", o, n)
		}
	}
	if m.Count() != 0 || len(m.Volumes()) != 0 || len(m.Dump()) != 0 || m.Copy() != nil {
		t.Error("nil isn't nothing")
	}
	if model.Same(m, m) || model.Same(m, model.New(1)) || model.Same(model.New(1), m) {
		t.Error("nil is the same")
	}
	if m.Restore(nil) || m.Restore([]string{}) || m.Restore([]string{""}) {
		t.Error("nil was restored")
	}
}

// Rules 3 and 4: answers are new memory.
func TestNewMemory(t *testing.T) {
	m := made(t, 1, order.Create{Id: 1, Size: 2}, order.Write{Id: 1, At: 0, Data: secs("a")}, order.Snap{From: 1, To: 2})
	was := state(m, 1)
	for range 2 {
		for _, list := range [][]api.Volume{m.Volumes(), m.Do(order.Status{}).Vols} {
			for i := range list {
				list[i] = api.Volume{Id: 7}
			}
			_ = append(list, api.Volume{Id: 8})
		}
		dump := m.Dump()
		for i := range dump {
			dump[i] = "else"
		}
		if state(m, 1) != was {
			t.Fatal("an answer is the model's own memory")
		}
	}
	dump := []string{secs("b\x00"), secs("b\x00"), "spare"}
	if !m.Restore(dump[:2]) || dump[0] != secs("b\x00") || dump[1] != secs("b\x00") || dump[2] != "spare" {
		t.Errorf("%q", dump)
	}
	dump[0], dump[1] = "else", "else"
	if d := m.Dump(); d[0] != secs("b\x00") || d[1] != d[0] {
		t.Errorf("%q", d)
	}
}

// The chapter's example.
func TestExample(t *testing.T) {
	m := made(t, 4, order.Create{Id: 1, Size: 8}, order.Write{Id: 1, At: 5, Data: secs("a")}, order.Snap{From: 1, To: 2}, order.Write{Id: 2, At: 6, Data: secs("b")})
	if m.Count() != 2 {
		t.Error(m.Count())
	}
	answers(t, m, order.Read{Id: 1, At: 4, N: 4}, model.Answer{Data: secs("\x00a\x00\x00")})
	answers(t, m, order.Read{Id: 2, At: 4, N: 4}, model.Answer{Data: secs("\x00ab\x00")})
}
