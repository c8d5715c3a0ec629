package check_test

import (
	"math/rand"
	"slices"
	"strings"
	"testing"

	"tierce/api"
	"tierce/check"
	"tierce/disc"
	"tierce/head"
	"tierce/leaf"
	"tierce/mains"
	"tierce/place"
	"tierce/pool"
	"tierce/store"
	"tierce/tree"
	"tierce/vols"
)

// A rig is three devices and their power.
type rig struct {
	power *mains.Mains
	slow  *disc.Disc
	fast  *disc.Disc
	meta  *disc.Disc
}

// devices answers a rig of so many sectors of the tiers, and pages.
func devices(slow, fast, pages int) *rig {
	m := mains.New()
	return &rig{m, disc.New(m, slow), disc.New(m, fast), disc.New(m, pages*16)}
}

// formatted answers a rig with a pool without volumes on it, and the pool.
func formatted(t testing.TB, slots [2]int, size, pages int) (*rig, *pool.Pool) {
	t.Helper()
	r := devices(slots[0]*size, slots[1]*size, pages)
	p, e := pool.Format(r.slow, r.fast, r.meta, size)
	if e != api.OK {
		t.Fatal(e)
	}
	return r, p
}

// all answers the devices.
func (r *rig) all() []*disc.Disc { return []*disc.Disc{r.slow, r.fast, r.meta} }

// lost lets the power go and come; of what was loose the bits of keep stay.
func (r *rig) lost(t testing.TB, keep string) {
	t.Helper()
	r.power.Cut()
	for _, d := range r.all() {
		if e := d.Settle(keep); e != api.OK {
			t.Fatal(e)
		}
	}
	r.power.Come()
}

// state is all that may be told of three devices and their power.
func (r *rig) state() string {
	var out strings.Builder
	for _, d := range r.all() {
		s, e := d.Read(0, d.Len())
		out.WriteString(s)
		out.WriteByte(byte(e))
		out.WriteString(d.Image())
		for _, at := range d.Loose() {
			out.WriteByte(byte(at))
			out.WriteByte(byte(at >> 8))
		}
		out.WriteByte('.')
	}
	out.WriteByte(byte(r.power.Uses()))
	out.WriteByte(byte(r.power.Uses() >> 8))
	out.WriteByte(byte(r.power.Uses() >> 16))
	return out.String()
}

// looks answers what Look and Dump answer, and fails the test, unless both have the same error, that which Open has, and the devices are as they were.
func (r *rig) looks(t testing.TB) (check.Report, []string, api.Errno) {
	t.Helper()
	was := r.state()
	report, e := check.Look(r.slow, r.fast, r.meta)
	if r.state() != was {
		t.Fatal("Look changed something")
	}
	list, f := check.Dump(r.slow, r.fast, r.meta)
	if r.state() != was {
		t.Fatal("Dump changed something")
	}
	p, want := pool.Open(r.slow, r.fast, r.meta)
	if e != want || f != want || (p != nil) != (want == api.OK) {
		t.Fatalf("Look: %d; Dump: %d; Open: %d", e, f, want)
	}
	if e != api.OK && (report != check.Report{} || len(list) != 0) {
		t.Fatalf("beside the error %d: %+v, %d texts", e, report, len(list))
	}
	return report, list, e
}

// must fails the test, unless Look and Dump answer that.
func (r *rig) must(t testing.TB, want check.Report, volumes ...string) {
	t.Helper()
	report, list, e := r.looks(t)
	if e != api.OK || report != want {
		t.Fatalf("Look: %+v, %d; want %+v", report, e, want)
	}
	if !slices.Equal(list, volumes) {
		t.Fatalf("Dump: %q; want %q", list, volumes)
	}
}

// mustNot fails the test, unless Look and Dump answer that error.
func (r *rig) mustNot(t testing.TB, want api.Errno) {
	t.Helper()
	if _, _, e := r.looks(t); e != want {
		t.Fatalf("%d; want %d", e, want)
	}
}

// secs answers a sector for each byte of s, all of whose bytes are that.
func secs(s string) string {
	var out strings.Builder
	for i := range len(s) {
		out.WriteString(strings.Repeat(s[i:i+1], 16))
	}
	return out.String()
}

// zeros answers so many sectors of zeros.
func zeros(n int) string { return strings.Repeat("\x00", 16*n) }

// ok fails the test, if one of these errors isn't OK.
func ok(t testing.TB, list ...api.Errno) {
	t.Helper()
	for i, e := range list {
		if e != api.OK {
			t.Fatalf("call %d: %d", i, e)
		}
	}
}

// told is what the bytes of three devices tell, by the words of the chapters, without a pool and a store.
func (r *rig) told(t testing.TB) (check.Report, []string) {
	t.Helper()
	first, _ := r.meta.Read(0, 1)
	second, _ := r.meta.Read(1, 1)
	h, _, e := head.Newest(first, second)
	if e != api.OK {
		t.Fatal(e)
	}
	report := check.Report{Head: h}
	w := walk{t: t, meta: r.meta, leads: map[int]int{}}
	list, spots := w.root(h.Root)
	report.Vols = len(list)
	report.Chunks = len(spots)
	for _, spot := range spots {
		report.Used[spot.Tier]++
	}
	owners := map[uint64]int{}
	var texts []string
	for _, v := range list {
		row := []byte(zeros(v.Size * h.Chunk))
		for _, pair := range w.pairs(v.Root) {
			owners[pair.Val]++
			report.Places++
			spot, is := spots[int(pair.Val)]
			if !is {
				t.Fatal("a chunk without a place")
			}
			s, e := []*disc.Disc{r.slow, r.fast}[spot.Tier].Read(spot.Slot*h.Chunk, h.Chunk)
			if e != api.OK {
				t.Fatal(e)
			}
			copy(row[int(pair.Key)*h.Chunk*16:], s)
		}
		texts = append(texts, string(row))
	}
	report.Pages = len(w.leads)
	for _, n := range w.leads {
		report.Leads += n
	}
	for chunk, n := range owners {
		if n > report.Owners || n == report.Owners && int(chunk) < report.Most {
			report.Most, report.Owners = int(chunk), n
		}
	}
	if len(owners) != report.Chunks || report.Used[0]+report.Used[1] != report.Chunks {
		t.Fatal("the chunks and the places aren't the same")
	}
	return report, texts
}

// A walk goes through the nodes of a meta device, and counts how often each is led to.
type walk struct {
	t     testing.TB
	meta  *disc.Disc
	leads map[int]int
}

// pairs answers the pairs of a tree.
func (w *walk) pairs(page int) []api.Pair {
	w.t.Helper()
	if page == 0 {
		return nil
	}
	s, e := w.meta.Read(page*16, 16)
	if e != api.OK {
		w.t.Fatal(e)
	}
	node, e := leaf.Read(s)
	if e != api.OK {
		w.t.Fatal(e)
	}
	w.leads[page]++
	if node.Level == 0 {
		return node.List
	}
	was := w.leads[page]
	var list []api.Pair
	for _, pair := range node.List {
		below := int(pair.Val)
		if was == 1 {
			list = append(list, w.pairs(below)...)
			continue
		}
		// This node's pairs were counted when it was met first.
		again := walk{t: w.t, meta: w.meta, leads: map[int]int{}}
		list = append(list, again.pairs(below)...)
	}
	return list
}

// root answers the volumes and the chunks' spots in the root's tree.
func (w *walk) root(page int) ([]api.Volume, map[int]api.Spot) {
	w.t.Helper()
	var list []api.Volume
	spots := map[int]api.Spot{}
	for _, pair := range w.pairs(page) {
		if v, is := vols.Read(pair); is {
			list = append(list, v)
			continue
		}
		x, is := place.Read(pair)
		if !is {
			w.t.Fatal(pair)
		}
		spots[x.Chunk] = x.Spot
	}
	return list, spots
}

// A tally is what is to stand on devices that are made without a pool.
type tally struct {
	t     testing.TB
	rig   *rig
	store *store.Store
	pairs []api.Pair // of the root's tree
	pages []int
}

// tallied answers one of chunks of two sectors; each slot has a letter of its own, from A on the slow tier and from a on the fast one.
func tallied(t testing.TB, slots [2]int, pages int) *tally {
	t.Helper()
	r := devices(slots[0]*2, slots[1]*2, pages)
	for i := range slots[0] {
		ok(t, r.slow.Write(i*2, secs(string([]byte{byte('A' + i), byte('A' + i)}))))
	}
	for i := range slots[1] {
		ok(t, r.fast.Write(i*2, secs(string([]byte{byte('a' + i), byte('a' + i)}))))
	}
	st, e := store.Format(r.meta, slots, 2)
	ok(t, e)
	return &tally{t: t, rig: r, store: st}
}

// add adds a node, which is to be committed.
func (y *tally) add(l api.Leaf) int {
	y.t.Helper()
	page, e := y.store.Add(l)
	ok(y.t, e)
	y.pages = append(y.pages, page)
	return page
}

// chart answers the root of a map of these chunks, from the place 0 on; 0 stands for none.
func (y *tally) chart(chunks ...int) int {
	y.t.Helper()
	var list []api.Pair
	for at, chunk := range chunks {
		if chunk != 0 {
			list = append(list, api.Pair{Key: uint64(at), Val: uint64(chunk)})
		}
	}
	root, e := tree.Build(y.store, list)
	ok(y.t, e)
	y.keeps(root)
	return root
}

// keeps lets a tree's pages be committed.
func (y *tally) keeps(root int) {
	y.t.Helper()
	pages, e := tree.Reach(y.store, root)
	ok(y.t, e)
	y.pages = append(y.pages, pages...)
}

// volume lets a volume be there.
func (y *tally) volume(v api.Volume) {
	y.t.Helper()
	pair, e := vols.Pair(v)
	ok(y.t, e)
	y.pairs = append(y.pairs, pair)
}

// spot lets a chunk be there.
func (y *tally) spot(chunk, tier, slot int) {
	y.t.Helper()
	pair, e := place.Pair(place.Place{Chunk: chunk, Spot: api.Spot{Tier: tier, Slot: slot}})
	ok(y.t, e)
	y.pairs = append(y.pairs, pair)
}

// commit makes all that safe.
func (y *tally) commit() *rig {
	y.t.Helper()
	root, e := tree.Build(y.store, y.pairs)
	ok(y.t, e)
	y.keeps(root)
	slices.Sort(y.pages)
	ok(y.t, y.store.Commit(root, slices.Compact(y.pages)...), y.rig.slow.Flush(), y.rig.fast.Flush())
	return y.rig
}

// some does any of a pool's calls, with arguments that mostly can be.
func some(chance *rand.Rand, p *pool.Pool, size int) {
	id := 1 + chance.Intn(5)
	at, n := chance.Intn(30*size), 1+chance.Intn(2*size)
	switch chance.Intn(14) {
	case 0:
		p.Create(id, chance.Intn(40))
	case 1:
		if chance.Intn(3) == 0 {
			p.Delete(id)
		}
	case 2, 3:
		p.Snap(id, 1+chance.Intn(16))
	case 4:
		p.Resize(id, chance.Intn(40))
	case 5:
		p.Pin(id, chance.Intn(2) == 0)
	case 6:
		p.Discard(id, at, n)
	case 7, 8:
		for range 4 {
			p.Tick(chance.Int())
		}
	case 9:
		p.Read(id, at, n)
	case 10:
		p.Flush()
	default:
		var s strings.Builder
		for range n {
			s.WriteByte(byte(1 + chance.Intn(255)))
		}
		p.Write(id, at, secs(s.String()))
	}
}
