package pool_test

import (
	"fmt"
	"math"
	"math/rand"
	"slices"
	"strings"
	"testing"

	"tierce/api"
	"tierce/disc"
	"tierce/mains"
	"tierce/pool"
)

// secs answers a sector for each byte of s.
func secs(s string) string {
	var out strings.Builder
	for i := range len(s) {
		out.WriteString(strings.Repeat(s[i:i+1], sectorSize))
	}
	return out.String()
}

// short answers sectors as an error tells them: a byte for each that is all the same.
func short(s string) string {
	var out strings.Builder
	for len(s) >= sectorSize && s[:sectorSize] == strings.Repeat(s[:1], sectorSize) {
		out.WriteByte(s[0])
		s = s[sectorSize:]
	}
	return fmt.Sprintf("%q", out.String()+s)
}

// zeros answers so many sectors of zeros.
func zeros(n int) string { return strings.Repeat("\x00", n*sectorSize) }

// ends answers whole numbers that no Id, size or sector has, the ends of their type among them.
func ends() []int {
	return []int{math.MinInt, math.MinInt + 1, math.MinInt32, -1 << 32, -256, -2, -1, maxSectors, 1 << 32, 1<<32 + 1, math.MaxInt32, math.MaxInt - 1, math.MaxInt}
}

// A rig is a pool on its devices, and the twin that it must be like.
type rig struct {
	t      testing.TB
	power  *mains.Mains
	slow   *disc.Disc
	fast   *disc.Disc
	meta   *disc.Disc
	pool   *pool.Pool
	twin   *twin
	before int // uses of the power ahead of the twin
}

// made answers a rig of a new pool: so many slots of each tier, sectors of a chunk, pages.
func made(t testing.TB, slowSlots, fastSlots, size, pages int) *rig {
	t.Helper()
	m := mains.New()
	r := &rig{t: t, power: m, slow: disc.New(m, slowSlots*size), fast: disc.New(m, fastSlots*size), meta: disc.New(m, pages*pageSecs)}
	// What a device had ahead of the pool plays no part.
	for _, d := range []*disc.Disc{r.slow, r.fast} {
		d.Write(0, strings.Repeat("?", d.Len()*sectorSize))
		d.Flush()
	}
	var e api.Errno
	r.pool, e = pool.Format(r.slow, r.fast, r.meta, size)
	if e != api.OK || r.pool == nil {
		t.Fatalf("Format: %d", e)
	}
	r.twin = newTwin(slowSlots, fastSlots, size, pages)
	r.before = m.Uses()
	r.agrees()
	return r
}

// asked is what the pool answers.
func (r *rig) asked(o order) (string, api.Errno) {
	p := r.pool
	switch o.word {
	case "create":
		return "", p.Create(o.id, o.size)
	case "delete":
		return "", p.Delete(o.id)
	case "snap":
		return "", p.Snap(o.id, o.to)
	case "resize":
		return "", p.Resize(o.id, o.size)
	case "pin":
		return "", p.Pin(o.id, o.pin)
	case "read":
		return p.Read(o.id, o.at, o.n)
	case "write":
		return "", p.Write(o.id, o.at, o.data)
	case "discard":
		return "", p.Discard(o.id, o.at, o.n)
	case "flush":
		return "", p.Flush()
	case "tick":
		return "", p.Tick(o.pick)
	case "decay":
		p.Decay()
	}
	return "", api.OK
}

// does asks the pool and the twin, and fails the test, unless both answer the same, and are the same behind it. It answers the error.
func (r *rig) does(o order) api.Errno {
	r.t.Helper()
	s, e := r.asked(o)
	want, f := r.twin.do(o)
	if s != want || e != f {
		r.t.Fatalf("%+v: %s, %d; want %s, %d", o, short(s), e, short(want), f)
	}
	r.agrees()
	return e
}

// wants asks as does does, and fails the test, unless the error is this one.
func (r *rig) wants(e api.Errno, o order) {
	r.t.Helper()
	if got := r.does(o); got != e {
		r.t.Fatalf("%+v: %d; want %d", o, got, e)
	}
}

// Orders, each of which must be OK.

func (r *rig) create(id, size int) {
	r.t.Helper()
	r.wants(api.OK, order{word: "create", id: id, size: size})
}

func (r *rig) delete(id int) {
	r.t.Helper()
	r.wants(api.OK, order{word: "delete", id: id})
}

func (r *rig) snap(from, to int) {
	r.t.Helper()
	r.wants(api.OK, order{word: "snap", id: from, to: to})
}

func (r *rig) resize(id, size int) {
	r.t.Helper()
	r.wants(api.OK, order{word: "resize", id: id, size: size})
}

func (r *rig) pin(id int, is bool) {
	r.t.Helper()
	r.wants(api.OK, order{word: "pin", id: id, pin: is})
}

// write writes a sector for each byte.
func (r *rig) write(id, at int, s string) {
	r.t.Helper()
	r.wants(api.OK, order{word: "write", id: id, at: at, data: secs(s)})
}

// reads fails the test, unless the sectors are these, a byte for each.
func (r *rig) reads(id, at int, s string) {
	r.t.Helper()
	r.wants(api.OK, order{word: "read", id: id, at: at, n: len(s)})
	// The twin was asked too; these are what the test's own words say.
	if got := r.twin.vols[id].sectors(at, len(s)); got != secs(s) {
		r.t.Fatalf("sectors from %d on of %d: %s; want %s", at, id, short(got), short(secs(s)))
	}
}

func (r *rig) discard(id, at, n int) {
	r.t.Helper()
	r.wants(api.OK, order{word: "discard", id: id, at: at, n: n})
}

func (r *rig) flush() {
	r.t.Helper()
	r.wants(api.OK, order{word: "flush"})
}

func (r *rig) tick(pick int) {
	r.t.Helper()
	r.wants(api.OK, order{word: "tick", pick: pick})
}

func (r *rig) ticks(n int) {
	r.t.Helper()
	for range n {
		r.tick(0)
	}
}

func (r *rig) decay() {
	r.t.Helper()
	r.does(order{word: "decay"})
}

// touch reads a sector so often.
func (r *rig) touch(id, at, n int) {
	r.t.Helper()
	for range n {
		r.wants(api.OK, order{word: "read", id: id, at: at, n: 1})
	}
}

// agrees fails the test, unless the pool is as the twin is, and the devices too.
func (r *rig) agrees() {
	r.t.Helper()
	w := r.twin
	if got, want := r.pool.Status(), w.status(); got != want {
		r.t.Fatalf("Status: %+v; want %+v", got, want)
	}
	if got, want := r.pool.Volumes(), w.volumes(); !slices.Equal(got, want) {
		r.t.Fatalf("Volumes: %v; want %v", got, want)
	}
	r.agreesOnChunks()
	for _, id := range w.ids() {
		r.agreesOn(w.vols[id])
	}
	if got, want := r.power.Uses(), r.before+w.uses; got != want {
		r.t.Fatalf("%d uses of the power; want %d", got-r.before, w.uses)
	}
	for tier, d := range []*disc.Disc{r.slow, r.fast} {
		if got := setOf(d.Loose()); len(got) != len(w.loose[tier]) || !sameSet(got, w.loose[tier]) {
			r.t.Fatalf("tier %d: loose %v; want %v", tier, got, w.loose[tier])
		}
	}
	if len(r.meta.Loose()) > 0 {
		r.t.Fatalf("meta: loose %v", r.meta.Loose())
	}
}

func sameSet(a, b map[int]bool) bool {
	for n := range a {
		if !b[n] {
			return false
		}
	}
	return len(a) == len(b)
}

// agreesOnChunks fails the test, unless each chunk has the spot and the owners that it should.
func (r *rig) agreesOnChunks() {
	r.t.Helper()
	w := r.twin
	most := 3
	for _, chunk := range w.chunks() {
		most = max(most, chunk+3)
	}
	for chunk := -1; chunk <= most; chunk++ {
		want, should := w.spots[chunk]
		if got, is := r.pool.Spot(chunk); is != should || got != want {
			r.t.Fatalf("Spot(%d): %v, %v; want %v, %v", chunk, got, is, want, should)
		}
		if got, want := r.pool.Owners(chunk), w.ownersOf(chunk); !slices.Equal(got, want) {
			r.t.Fatalf("Owners(%d): %v; want %v", chunk, got, want)
		}
	}
}

// agreesOn fails the test, unless a volume's chunks, and what the devices have of them, are what they should be.
func (r *rig) agreesOn(v *vol) {
	r.t.Helper()
	for at, want := range v.chunks {
		got := r.pool.Chunk(v.Id, at)
		if got != want {
			r.t.Fatalf("Chunk(%d, %d) = %d; want %d", v.Id, at, got, want)
		}
		text := zeros(r.twin.size)
		if got != 0 {
			text = r.chunkAt(r.twin.spots[got])
		}
		if row := v.sectors(at*r.twin.size, r.twin.size); text != row {
			r.t.Fatalf("volume %d, place %d: %s; want %s", v.Id, at, short(text), short(row))
		}
	}
}

// device answers a tier's.
func (r *rig) device(tier int) *disc.Disc {
	if tier == fast {
		return r.fast
	}
	return r.slow
}

// chunkAt answers what stands at a spot, without the pool.
func (r *rig) chunkAt(s api.Spot) string {
	text, e := r.device(s.Tier).Read(s.Slot*r.twin.size, r.twin.size)
	if e != api.OK {
		r.t.Fatalf("the device of %v: %d", s, e)
	}
	return text
}

// lost lets the power go and come again; of what is loose on each device that stays which keep tells.
func (r *rig) lost(keep [3]string) {
	r.power.Cut()
	r.slow.Settle(keep[0])
	r.fast.Settle(keep[1])
	r.meta.Settle(keep[2])
	r.power.Come()
}

// nothing is kept, or all.
var (
	nothing = [3]string{}
	all     = [3]string{"\xff", "\xff", "\xff"}
)

// opens opens the devices, and fails the test, unless the pool is like a twin, whose rows become what the devices have.
func (r *rig) opens(w *twin) {
	r.t.Helper()
	uses := r.power.Uses()
	p, e := pool.Open(r.slow, r.fast, r.meta)
	if e != api.OK || p == nil {
		r.t.Fatalf("Open: %d", e)
	}
	if r.power.Uses() != uses {
		r.t.Fatalf("Open used the power %d times", r.power.Uses()-uses)
	}
	r.pool, r.twin = p, w
	w.uses, r.before = 0, uses
	for _, v := range w.vols {
		for at, chunk := range v.chunks {
			if chunk == 0 {
				continue
			}
			text := r.chunkAt(w.spots[chunk])
			for i := range w.size {
				v.row[at*w.size+i] = text[i*sectorSize : (i+1)*sectorSize]
			}
		}
	}
	r.agrees()
}

// reopens opens the pool again, as it was committed; all that it is must be committed.
func (r *rig) reopens() {
	r.t.Helper()
	r.opens(r.twin.reopened())
}

// Chance: orders that may be anything, most of them such that can be.

type mix struct {
	chance *rand.Rand
	ids    int // Ids go up to that
	places int // volumes' sizes too
	wild   int // one of so many orders has a number that can't be; 0: none
	letter byte
}

func newMix(seed int64, ids, places int) *mix {
	return &mix{chance: rand.New(rand.NewSource(seed)), ids: ids, places: places, wild: 12}
}

// next answers the next order, of a pool that is as w.
func (x *mix) next(w *twin) order {
	o := order{word: x.word(), id: x.id(w, true), to: x.id(w, false), size: x.chance.Intn(x.places + 1), pick: x.chance.Int() - x.chance.Int(), pin: x.chance.Intn(3) > 0}
	if o.word == "create" {
		o.id = o.to
	}
	x.sectors(w, &o)
	if x.wild > 0 && x.chance.Intn(x.wild) == 0 {
		x.spoil(&o)
	}
	return o
}

// id answers an Id: most often that of a volume, or of none.
func (x *mix) id(w *twin, is bool) int {
	var list []int
	for id := 1; id <= x.ids; id++ {
		if (w.vols[id] != nil) == is {
			list = append(list, id)
		}
	}
	if len(list) == 0 || x.chance.Intn(12) == 0 {
		return 1 + x.chance.Intn(x.ids)
	}
	return list[x.chance.Intn(len(list))]
}

// sectors gives an order a range: most often one that its volume has, and often of whole chunks.
func (x *mix) sectors(w *twin, o *order) {
	c := x.chance
	o.n = 1 + c.Intn(2*w.size)
	whole := c.Intn(2) == 0
	if whole {
		o.n = w.size * (1 + c.Intn(2))
	}
	most := x.places * w.size
	if v := w.vols[o.id]; v != nil && c.Intn(12) > 0 {
		o.n = min(o.n, max(v.Size*w.size, 1))
		most = v.Size*w.size - o.n
	}
	o.at = c.Intn(max(most, 0) + 1)
	if whole {
		o.at -= o.at % w.size
	}
	o.data = x.letters(o.n)
}

// letters answers n sectors, each with bytes that few others have.
func (x *mix) letters(n int) string {
	var out strings.Builder
	for range n {
		x.letter++
		out.WriteByte(max(x.letter, 1))
	}
	return secs(out.String())
}

// word answers what is asked: some things more often than others.
func (x *mix) word() string {
	switch n := x.chance.Intn(100); {
	case n < 35:
		return "write"
	case n < 47:
		return "read"
	case n < 62:
		return "tick"
	case n < 72:
		return "discard"
	case n < 79:
		return "snap"
	case n < 84:
		return "create"
	case n < 88:
		return "delete"
	case n < 91:
		return "resize"
	case n < 95:
		return "pin"
	case n < 98:
		return "flush"
	}
	return "decay"
}

// spoil gives an order a part that it can't have.
func (x *mix) spoil(o *order) {
	n := ends()[x.chance.Intn(len(ends()))]
	switch x.chance.Intn(7) {
	case 0:
		o.id = n
	case 1:
		o.to = n
	case 2:
		o.size = n
	case 3:
		o.at = n
	case 4:
		o.n = n
	case 5:
		o.data = o.data[1:]
	case 6:
		o.data, o.n = "", 0
	}
}
