package model_test

import (
	"maps"
	"slices"
	"testing"

	"tierce/api"
	"tierce/disc"
	"tierce/mains"
	"tierce/model"
	"tierce/order"
	"tierce/pool"
)

// P22.1, P22.2: any orders, against rows and sets by the chapter's words.
func TestChance(t *testing.T) {
	for size := 1; size <= maxChunk; size++ {
		for seed := range int64(6) {
			m, r, x := model.New(size), newRows(size), newMix(100*int64(size)+seed, 7, 6)
			fine := 0
			for i := range 500 {
				if r.does(t, m, x.next(r)) == api.OK {
					fine++
				}
				if i%5 == 0 {
					r.agrees(t, m)
				}
			}
			r.agrees(t, m)
			if fine < 200 {
				t.Error("hardly an order was OK", size, seed, fine)
			}
		}
	}
}

// Rule 4: the same orders, always the same; and a copy goes on as the model does.
func TestTwice(t *testing.T) {
	for seed := range int64(20) {
		m, r := grown(t, seed, 3, 6, 5, 120)
		again, _ := grown(t, seed, 3, 6, 5, 120)
		c, x := m.Copy(), newMix(seed+7, 6, 5)
		for range 60 {
			o := x.next(r)
			want := r.do(o)
			for _, one := range []*model.Model{m, again, c} {
				answers(t, one, o, want)
			}
		}
		if was := state(m, 3); state(again, 3) != was || state(c, 3) != was {
			t.Fatal(seed)
		}
	}
}

// changed answers the Id of the volume that an order may change; 0: none.
func changed(o order.Order) int {
	switch o := o.(type) {
	case order.Create:
		return o.Id
	case order.Delete:
		return o.Id
	case order.Snap:
		return o.To
	case order.Resize:
		return o.Id
	case order.Pin:
		return o.Id
	case order.Free:
		return o.Id
	case order.Write:
		return o.Id
	case order.Discard:
		return o.Id
	}
	return 0
}

// whole is a volume with its sectors.
type whole struct {
	api.Volume
	sectors string
}

// wholes answers all volumes by their Ids.
func wholes(m *model.Model) map[int]whole {
	all := map[int]whole{}
	dump := m.Dump()
	for i, v := range m.Volumes() {
		all[v.Id] = whole{v, dump[i]}
	}
	return all
}

// P22.3: an order changes no volume but the one that it names.
func TestNoOtherVolume(t *testing.T) {
	for seed := range int64(40) {
		m, r, x := model.New(2), newRows(2), newMix(500+seed, 8, 5)
		for range 300 {
			o := x.next(r)
			was := wholes(m)
			r.does(t, m, o)
			is := wholes(m)
			delete(was, changed(o))
			delete(is, changed(o))
			if !maps.Equal(was, is) {
				t.Fatalf("%#v: %v; was %v", o, is, was)
			}
		}
	}
}

// P22.3: a Snap of a Snap is as one of the volume itself, but for the volume from which it was taken.
func TestSnapOfSnap(t *testing.T) {
	for seed := range int64(60) {
		m, r := grown(t, 900+seed, 2, 5, 5, 80)
		ids := r.ids()
		if len(ids) == 0 {
			continue
		}
		asked(t, m, order.Snap{From: ids[0], To: 14})
		first, second := m.Copy(), m.Copy()
		asked(t, first, order.Snap{From: ids[0], To: 15})
		asked(t, second, order.Snap{From: 14, To: 15})
		if v := second.Volumes(); v[len(v)-1].From != 14 {
			t.Fatal(v)
		}
		sameButFrom(t, first, second)
		// They go on alike, whichever of the three is changed.
		for i, id := range []int{15, 14, ids[0], 15} {
			size := r.vols[ids[0]].Size
			for at := i; at < 2*size; at += 3 {
				data := secs(string(rune('a' + at)))
				asked(t, first, order.Write{Id: id, At: at, Data: data})
				asked(t, second, order.Write{Id: id, At: at, Data: data})
				sameButFrom(t, first, second)
			}
		}
		asked(t, first, order.Delete{Id: 14})
		asked(t, second, order.Delete{Id: 14})
		sameButFrom(t, first, second)
	}
}

// sameButFrom fails the test, unless two models are the same in all but From.
func sameButFrom(t testing.TB, a, b *model.Model) {
	t.Helper()
	one, other := a.Volumes(), b.Volumes()
	for i := range other {
		one[i].From, other[i].From = 0, 0
	}
	if !slices.Equal(one, other) || !slices.Equal(a.Dump(), b.Dump()) || a.Count() != b.Count() {
		t.Fatalf("%v, %d: %s; %v, %d: %s", one, a.Count(), short(a.Dump()...), other, b.Count(), short(b.Dump()...))
	}
	for _, v := range one {
		for at := range 2 * v.Size {
			if o := (order.Write{Id: v.Id, At: at, Data: zeros(1)}); a.Wants(o) != b.Wants(o) {
				t.Fatalf("Wants of %#v: %d, %d", o, a.Wants(o), b.Wants(o))
			}
		}
	}
}

// P22.3: by hand.
func TestThreeGenerations(t *testing.T) {
	m := made(t, 2, order.Create{Id: 1, Size: 2}, order.Write{Id: 1, At: 0, Data: secs("abc")}, order.Snap{From: 1, To: 2}, order.Snap{From: 2, To: 3})
	if m.Count() != 2 {
		t.Fatal(m.Count())
	}
	for _, c := range []struct {
		o    order.Order
		want []string
		n    int
	}{
		{order.Write{Id: 3, At: 1, Data: secs("x")}, texts("abc\x00", "abc\x00", "axc\x00"), 3},
		{order.Write{Id: 1, At: 1, Data: secs("yz")}, texts("ayz\x00", "abc\x00", "axc\x00"), 5},
		{order.Discard{Id: 2, At: 2, N: 2}, texts("ayz\x00", "ab\x00\x00", "axc\x00"), 5},
		{order.Resize{Id: 1, Size: 1}, texts("ay", "ab\x00\x00", "axc\x00"), 4},
		{order.Write{Id: 3, At: 2, Data: secs("w")}, texts("ay", "ab\x00\x00", "axw\x00"), 4},
		{order.Delete{Id: 2}, texts("ay", "axw\x00"), 3},
	} {
		asked(t, m, c.o)
		if d := m.Dump(); !slices.Equal(d, c.want) || m.Count() != c.n {
			t.Fatalf("%#v: %s, %d; want %s, %d", c.o, short(d...), m.Count(), short(c.want...), c.n)
		}
	}
}

// asks is what a pool answers, as a model does.
func asks(p *pool.Pool, o order.Order) model.Answer {
	a := model.Answer{}
	switch o := o.(type) {
	case order.Create:
		a.Err = p.Create(o.Id, o.Size)
	case order.Delete:
		a.Err = p.Delete(o.Id)
	case order.Snap:
		a.Err = p.Snap(o.From, o.To)
	case order.Resize:
		a.Err = p.Resize(o.Id, o.Size)
	case order.Pin:
		a.Err = p.Pin(o.Id, true)
	case order.Free:
		a.Err = p.Pin(o.Id, false)
	case order.Read:
		a.Data, a.Err = p.Read(o.Id, o.At, o.N)
	case order.Write:
		a.Err = p.Write(o.Id, o.At, o.Data)
	case order.Discard:
		a.Err = p.Discard(o.Id, o.At, o.N)
	case order.Flush:
		a.Err = p.Flush()
	case order.Tick:
		a.Err = p.Tick(o.Pick)
	case order.Decay:
		p.Decay()
	case order.Status:
		a.Vols = rootless(p)
	}
	return a
}

// rootless answers a pool's volumes without the pages of their maps.
func rootless(p *pool.Pool) []api.Volume {
	list := p.Volumes()
	for i := range list {
		list[i].Root = 0
	}
	return list
}

// P22.1, P22.2: a pool with room answers what a model does, has as many chunks, and just those of an order more that the model wants.
func TestPool(t *testing.T) {
	for _, size := range []int{1, 2, 3, maxChunk} {
		for seed := range int64(4) {
			power := mains.New()
			p, e := pool.Format(disc.New(power, 256*size), disc.New(power, 40*size), disc.New(power, 512*16), size)
			if e != api.OK {
				t.Fatal(e)
			}
			m, r, x := model.New(size), newRows(size), newMix(3000+10*int64(size)+seed, 6, 5)
			for range 250 {
				o := x.next(r)
				r.do(o)
				chunks, wants := p.Status().Chunks, m.Wants(o)
				answers(t, m, o, asks(p, o))
				if got, want := m.Volumes(), rootless(p); !slices.Equal(got, want) {
					t.Fatalf("%#v: %v; want %v", o, got, want)
				}
				if m.Count() != p.Status().Chunks {
					t.Fatalf("%#v: %d chunks; want %d", o, m.Count(), p.Status().Chunks)
				}
				if _, is := o.(order.Write); is && m.Count() != chunks+wants {
					t.Fatalf("%#v: %d chunks, %d behind it, and %d are wanted", o, chunks, m.Count(), wants)
				}
			}
			r.agrees(t, m)
		}
	}
}
