package model_test

import (
	"math/rand"
	"slices"
	"testing"

	"tierce/api"
	"tierce/model"
	"tierce/order"
)

// shared answers a model of chunks of two sectors: 1 and 2 share the chunk of the place 0, each has one of its own at 1, 2 alone has one at 2; 5 has no place, 9 no chunk.
func shared(t testing.TB) *model.Model {
	t.Helper()
	return made(t, 2,
		order.Create{Id: 1, Size: 3}, order.Write{Id: 1, At: 0, Data: secs("abcd")}, order.Snap{From: 1, To: 2}, order.Write{Id: 2, At: 3, Data: secs("ef")}, order.Pin{Id: 2},
		order.Create{Id: 5, Size: 0}, order.Create{Id: 9, Size: 1})
}

// texts answers the texts of sectors, a byte for each.
func texts(list ...string) []string {
	var all []string
	for _, s := range list {
		all = append(all, secs(s))
	}
	return all
}

// P22.4: chunks have what is told; all else is as it was.
func TestRestore(t *testing.T) {
	for _, dump := range [][]string{
		texts("abcd\x00\x00", "abcefg", "", "\x00\x00"),
		texts("ABCD\x00\x00", "ABEFGH", "", "\x00\x00"),
		texts("\x00\x00\x00\x00\x00\x00", "\x00\x00\x00\x00\x00\x00", "", "\x00\x00"),
		{secs("a") + "0123456789abcdef" + secs("cd") + zeros(2), secs("a") + "0123456789abcdef" + secs("efg\xff"), "", zeros(2)},
	} {
		m := shared(t)
		volumes, handed := m.Volumes(), slices.Clone(dump)
		if !m.Restore(dump) {
			t.Fatalf("%s: false", short(dump...))
		}
		if got := m.Dump(); !slices.Equal(got, dump) || !slices.Equal(dump, handed) {
			t.Errorf("%s; want %s", short(got...), short(dump...))
		}
		if !slices.Equal(m.Volumes(), volumes) || m.Count() != 4 {
			t.Error(m.Volumes(), m.Count())
		}
		// The chunk of the place 0 is shared as before, the others aren't, and where none was none is.
		for _, c := range []struct {
			o    order.Order
			want int
		}{
			{order.Write{Id: 1, At: 0, Data: secs("x")}, 1}, {order.Write{Id: 2, At: 1, Data: secs("x")}, 1}, {order.Write{Id: 1, At: 2, Data: secs("x")}, 0}, {order.Write{Id: 2, At: 3, Data: secs("x")}, 0},
			{order.Write{Id: 1, At: 4, Data: secs("x")}, 1}, {order.Write{Id: 2, At: 4, Data: secs("x")}, 0}, {order.Write{Id: 9, At: 0, Data: secs("x")}, 1},
		} {
			if n := m.Wants(c.o); n != c.want {
				t.Errorf("%#v: %d; want %d", c.o, n, c.want)
			}
		}
		asked(t, m, order.Write{Id: 2, At: 0, Data: secs("x")})
		if got := m.Dump(); got[0] != dump[0] || got[1] != secs("x")+dump[1][sectorSize:] {
			t.Errorf("%s behind a Write", short(got...))
		}
	}
}

// P22.4: what can't be told, and that then nothing is done.
func TestRestoreNot(t *testing.T) {
	good := texts("ABCD\x00\x00", "ABEFGH", "", "\x00\x00")
	m := shared(t)
	was := state(m, 2)
	falls := func(dump ...string) {
		t.Helper()
		if m.Restore(dump) {
			t.Fatalf("%s: true", short(dump...))
		}
		if state(m, 2) != was {
			t.Fatalf("%s changed something", short(dump...))
		}
	}
	// Too few texts, too many, and other ones.
	falls()
	falls(good[:3]...)
	falls(good[1:]...)
	falls(append(slices.Clone(good), "")...)
	falls(append(slices.Clone(good), zeros(1))...)
	falls(good[1], good[0], good[2], good[3])
	falls(good[0], good[1], good[3], good[2])
	for i := range good {
		for _, text := range []string{good[i] + "\x00", good[i] + zeros(1), good[i] + zeros(2), good[i][:max(len(good[i])-1, 0)], good[i][:max(len(good[i])-sectorSize, 0)], good[i][:max(len(good[i])-2*sectorSize, 0)], ""} {
			if text != good[i] {
				dump := slices.Clone(good)
				dump[i] = text
				falls(dump...)
			}
		}
	}
	// Each byte of a place without a chunk is zero.
	for _, at := range []struct{ i, from int }{{0, 4 * sectorSize}, {3, 0}} {
		for i := range 2 * sectorSize {
			falls(turned(good, at.i, at.from+i)...)
		}
	}
	// Each byte of a shared chunk is the same; which of the two is the other one plays no part.
	for i := range 2 * sectorSize {
		falls(turned(good, 0, i)...)
		falls(turned(good, 1, i)...)
	}
	// But of the others each may be any.
	for i := range 6 * sectorSize {
		if i >= 2*sectorSize && i < 4*sectorSize && !m.Copy().Restore(turned(good, 0, i)) || i >= 2*sectorSize && !m.Copy().Restore(turned(good, 1, i)) {
			t.Fatalf("byte %d: false", i)
		}
	}
	if !m.Restore(good) || !slices.Equal(m.Dump(), good) {
		t.Error("false")
	}
}

// turned answers texts with one byte of one of them another one.
func turned(list []string, i, at int) []string {
	next := slices.Clone(list)
	b := []byte(next[i])
	b[at] ^= 0x41
	next[i] = string(b)
	return next
}

// P22.4: without volumes there is no text.
func TestRestoreNone(t *testing.T) {
	m := model.New(2)
	if !m.Restore(nil) || !m.Restore([]string{}) || m.Restore([]string{""}) || m.Restore(make([]string, 2)) || len(m.Volumes()) != 0 {
		t.Error("without volumes")
	}
}

// P22.4: three that share, of which any one is told otherwise; and the volume is gone that was first.
func TestRestoreThree(t *testing.T) {
	m := made(t, 1, order.Create{Id: 2, Size: 1}, order.Write{Id: 2, At: 0, Data: secs("a")}, order.Snap{From: 2, To: 1}, order.Snap{From: 1, To: 3}, order.Snap{From: 3, To: 4}, order.Delete{Id: 2})
	for _, dump := range [][]string{texts("b", "b", "a"), texts("b", "a", "b"), texts("a", "b", "b"), texts("a", "b", "c"), texts("a", "a", "\x00")} {
		if m.Restore(dump) || m.Dump()[0] != secs("a") || m.Count() != 1 {
			t.Error(short(dump...))
		}
	}
	if !m.Restore(texts("b", "b", "b")) || m.Count() != 1 || !slices.Equal(m.Dump(), texts("b", "b", "b")) {
		t.Error("false")
	}
}

// P22.4: models of chance, with dumps of chance.
func TestRestoreOfChance(t *testing.T) {
	chance := rand.New(rand.NewSource(224))
	yes, no := 0, 0
	for seed := range int64(400) {
		size := 1 + chance.Intn(3)
		m, r := grown(t, seed, size, 5, 4, 60)
		dump, can := dumpOf(r, chance)
		was := state(m, size)
		if got := m.Restore(dump); got != can {
			t.Fatalf("seed %d: %v; want %v", seed, got, can)
		}
		if !can {
			no++
			if state(m, size) != was {
				t.Fatalf("seed %d: something changed", seed)
			}
			continue
		}
		yes++
		r.restore(dump)
		r.agrees(t, m)
		x := newMix(seed, 5, 4)
		for range 20 {
			r.does(t, m, x.next(r))
		}
		r.agrees(t, m)
	}
	if yes < 100 || no < 50 {
		t.Error("hardly any", yes, no)
	}
}

// grown answers a model behind so many orders of chance, and the rows that it is like.
func grown(t testing.TB, seed int64, size, ids, places, orders int) (*model.Model, *rows) {
	t.Helper()
	m, r, x := model.New(size), newRows(size), newMix(seed, ids, places)
	for range orders {
		r.does(t, m, x.next(r))
	}
	return m, r
}

// dumpOf answers texts of chance, and whether they can be: most of them are but one sector away from that.
func dumpOf(r *rows, chance *rand.Rand) ([]string, bool) {
	other := &rows{size: r.size, vols: r.vols, row: map[int][]string{}, chunks: r.chunks}
	for _, id := range r.ids() {
		other.row[id] = slices.Repeat([]string{zeros(1)}, r.vols[id].Size*r.size)
	}
	for _, set := range r.chunks {
		for i := range r.size {
			text := secs(string(rune('a' + chance.Intn(26))))
			for at := range set {
				other.row[at.id][at.at*r.size+i] = text
			}
		}
	}
	if ids := r.ids(); len(ids) > 0 && chance.Intn(2) == 0 {
		if id := ids[chance.Intn(len(ids))]; len(other.row[id]) > 0 {
			i := chance.Intn(len(other.row[id]))
			other.row[id][i] = secs("!")
			at := spot{id, i / r.size}
			return other.dump(), r.of(at) >= 0 && !r.shared(at)
		}
	}
	return other.dump(), true
}

// restore gives the rows the sectors of a dump that can be.
func (r *rows) restore(dump []string) {
	for i, id := range r.ids() {
		for at := range r.row[id] {
			r.row[id][at] = dump[i][at*sectorSize : (at+1)*sectorSize]
		}
	}
}

// P22.4: a dump of one's own, at any time, is nothing new.
func TestRestoreOwnDump(t *testing.T) {
	for seed := range int64(60) {
		m, r := grown(t, 1000+seed, 2, 6, 5, 80)
		was := state(m, 2)
		if !m.Restore(m.Dump()) || state(m, 2) != was {
			t.Fatal(seed)
		}
		r.agrees(t, m)
	}
}

// P22.4: Restore of the dump that was, behind Writes in the places where chunks stood, is as if these weren't.
func TestRestoreBack(t *testing.T) {
	m := shared(t)
	base := m.Copy()
	asked(t, m, order.Write{Id: 1, At: 2, Data: secs("XY")}, order.Discard{Id: 2, At: 3, N: 1})
	if model.Same(m, base) || !m.Restore(base.Dump()) || !model.Same(m, base) {
		t.Error(short(m.Dump()...))
	}
	// Where a Discard took the chunk there is no place for what it had.
	asked(t, m, order.Discard{Id: 2, At: 4, N: 2})
	if m.Restore(base.Dump()) {
		t.Error("a sector came to be where no chunk stands")
	}
	answers(t, m, order.Read{Id: 2, At: 2, N: 4}, model.Answer{Err: api.OK, Data: secs("ce\x00\x00")})
}
