package model_test

import (
	"fmt"
	"maps"
	"math"
	"math/rand"
	"slices"
	"strings"
	"testing"

	"tierce/api"
	"tierce/model"
	"tierce/order"
)

// Numbers of the document, written out, so that these tests hold the limits too.
const (
	sectorSize = 16
	maxChunk   = 8
	maxSize    = 64
	maxVolumes = 16
	most       = 512 // bytes of an order's text
)

// secs answers a sector for each byte of s, all of whose bytes are that.
func secs(s string) string {
	var out strings.Builder
	for i := range len(s) {
		out.WriteString(strings.Repeat(s[i:i+1], sectorSize))
	}
	return out.String()
}

// zeros answers so many sectors of zeros.
func zeros(n int) string { return strings.Repeat("\x00", n*sectorSize) }

// ends answers whole numbers that no Id, size or sector has, the ends of their type among them.
func ends() []int {
	return []int{math.MinInt, math.MinInt + 1, math.MinInt32, -1 << 32, -256, -16, -2, -1, 1 << 14, 1 << 32, 1<<32 + 1, math.MaxInt32, math.MaxInt - 1, math.MaxInt}
}

// others answers orders that a model has nothing to do for.
func others() []order.Order {
	long := strings.Repeat("\xff", most)
	return []order.Order{
		order.Flush{}, order.Tick{}, order.Tick{Pick: math.MaxInt}, order.Tick{Pick: math.MinInt}, order.Decay{},
		order.Fuse{}, order.Fuse{N: 1}, order.Fuse{N: -1}, order.Fuse{N: math.MinInt}, order.Crash{}, order.Crash{Slow: long, Fast: long, Meta: long},
	}
}

// spot is a place of a volume.
type spot struct{ id, at int }

// rows is what a model must be by the chapter's words: each volume as a row of sectors, and each chunk as the set of the places where it stands.
type rows struct {
	size   int
	vols   map[int]api.Volume
	row    map[int][]string
	chunks []map[spot]bool
}

func newRows(size int) *rows {
	return &rows{size: size, vols: map[int]api.Volume{}, row: map[int][]string{}}
}

// of answers the chunk at a place; -1: none.
func (r *rows) of(at spot) int {
	return slices.IndexFunc(r.chunks, func(set map[spot]bool) bool { return set[at] })
}

// shared tells whether the chunk at a place stands elsewhere too.
func (r *rows) shared(at spot) bool {
	i := r.of(at)
	return i >= 0 && len(r.chunks[i]) > 1
}

// letGo takes a place's chunk away.
func (r *rows) letGo(at spot) {
	for _, set := range r.chunks {
		delete(set, at)
	}
	r.chunks = slices.DeleteFunc(r.chunks, func(set map[spot]bool) bool { return len(set) == 0 })
}

// renew gives a place a chunk of its own, if it hasn't one.
func (r *rows) renew(at spot) {
	if r.of(at) < 0 || r.shared(at) {
		r.letGo(at)
		r.chunks = append(r.chunks, map[spot]bool{at: true})
	}
}

func (r *rows) ids() []int { return slices.Sorted(maps.Keys(r.vols)) }

func (r *rows) volumes() []api.Volume {
	var list []api.Volume
	for _, id := range r.ids() {
		list = append(list, r.vols[id])
	}
	return list
}

func (r *rows) dump() []string {
	var list []string
	for _, id := range r.ids() {
		list = append(list, strings.Join(r.row[id], ""))
	}
	return list
}

// resize gives a volume's row so many chunks.
func (r *rows) resize(id, size int) {
	row := slices.Clone(r.row[id])
	row = row[:min(len(row), size*r.size)]
	for len(row) < size*r.size {
		row = append(row, zeros(1))
	}
	r.row[id] = row
	for at := size; at < maxSize; at++ {
		r.letGo(spot{id, at})
	}
	v := r.vols[id]
	v.Id, v.Size = id, size
	r.vols[id] = v
}

// lacks answers why a range of sectors can't be.
func (r *rows) lacks(id, at, n int) api.Errno {
	v, is := r.vols[id]
	switch {
	case !is:
		return api.ErrMiss
	case at < 0 || n < 1 || n > 2*r.size:
		return api.ErrArg
	case uint64(at)+uint64(n) > uint64(v.Size*r.size):
		return api.ErrRange
	}
	return api.OK
}

// lacksText answers why a Write can't be.
func (r *rows) lacksText(o order.Write) api.Errno {
	if _, is := r.vols[o.Id]; is && len(o.Data)%sectorSize != 0 {
		return api.ErrArg
	}
	return r.lacks(o.Id, o.At, len(o.Data)/sectorSize)
}

// touched answers how many of a range's sectors there are of each place.
func (r *rows) touched(at, n int) map[int]int {
	places := map[int]int{}
	for i := range n {
		places[(at+i)/r.size]++
	}
	return places
}

// wants answers what Wants must.
func (r *rows) wants(o order.Order) int {
	n := 0
	switch o := o.(type) {
	case order.Write:
		if r.lacksText(o) != api.OK {
			return 0
		}
		for at := range r.touched(o.At, len(o.Data)/sectorSize) {
			if r.of(spot{o.Id, at}) < 0 || r.shared(spot{o.Id, at}) {
				n++
			}
		}
	case order.Discard:
		if r.lacks(o.Id, o.At, o.N) != api.OK {
			return 0
		}
		for at, touched := range r.touched(o.At, o.N) {
			if touched < r.size && r.shared(spot{o.Id, at}) {
				n++
			}
		}
	}
	return n
}

// do does an order that can be, and answers what Do must.
func (r *rows) do(o order.Order) model.Answer {
	a := model.Answer{}
	switch o := o.(type) {
	case order.Create:
		a.Err = r.create(o)
	case order.Delete:
		if a.Err = r.miss(o.Id); a.Err == api.OK {
			r.resize(o.Id, 0)
			delete(r.vols, o.Id)
			delete(r.row, o.Id)
		}
	case order.Snap:
		a.Err = r.snap(o)
	case order.Resize:
		a.Err = r.miss(o.Id)
		if a.Err == api.OK && (o.Size < 0 || o.Size > maxSize) {
			a.Err = api.ErrArg
		}
		if a.Err == api.OK {
			r.resize(o.Id, o.Size)
		}
	case order.Pin:
		a.Err = r.pin(o.Id, true)
	case order.Free:
		a.Err = r.pin(o.Id, false)
	case order.Read:
		if a.Err = r.lacks(o.Id, o.At, o.N); a.Err == api.OK {
			a.Data = strings.Join(r.row[o.Id][o.At:o.At+o.N], "")
		}
	case order.Write:
		if a.Err = r.lacksText(o); a.Err == api.OK {
			r.write(o)
		}
	case order.Discard:
		if a.Err = r.lacks(o.Id, o.At, o.N); a.Err == api.OK {
			r.discard(o)
		}
	case order.Status:
		a.Vols = r.volumes()
	}
	return a
}

func (r *rows) miss(id int) api.Errno {
	if _, is := r.vols[id]; !is {
		return api.ErrMiss
	}
	return api.OK
}

func (r *rows) create(o order.Create) api.Errno {
	if o.Id < 1 || o.Id > maxVolumes || o.Size < 0 || o.Size > maxSize {
		return api.ErrArg
	}
	if r.miss(o.Id) == api.OK {
		return api.ErrDup
	}
	r.resize(o.Id, o.Size)
	return api.OK
}

func (r *rows) snap(o order.Snap) api.Errno {
	switch {
	case r.miss(o.From) != api.OK:
		return api.ErrMiss
	case o.To < 1 || o.To > maxVolumes:
		return api.ErrArg
	case r.miss(o.To) == api.OK:
		return api.ErrDup
	}
	r.vols[o.To] = api.Volume{Id: o.To, Size: r.vols[o.From].Size, From: o.From}
	r.row[o.To] = slices.Clone(r.row[o.From])
	for at := range maxSize {
		if i := r.of(spot{o.From, at}); i >= 0 {
			r.chunks[i][spot{o.To, at}] = true
		}
	}
	return api.OK
}

func (r *rows) pin(id int, is bool) api.Errno {
	if e := r.miss(id); e != api.OK {
		return e
	}
	v := r.vols[id]
	v.Pinned = is
	r.vols[id] = v
	return api.OK
}

func (r *rows) write(o order.Write) {
	for i := range len(o.Data) / sectorSize {
		r.renew(spot{o.Id, (o.At + i) / r.size})
		r.row[o.Id][o.At+i] = o.Data[i*sectorSize : (i+1)*sectorSize]
	}
}

func (r *rows) discard(o order.Discard) {
	for i := range o.N {
		r.row[o.Id][o.At+i] = zeros(1)
	}
	for at, touched := range r.touched(o.At, o.N) {
		switch place := (spot{o.Id, at}); {
		case r.of(place) < 0:
		case touched == r.size:
			r.letGo(place)
		default:
			r.renew(place)
		}
	}
}

// agrees fails the test, unless the model is as the rows are.
func (r *rows) agrees(t testing.TB, m *model.Model) {
	t.Helper()
	if got, want := m.Volumes(), r.volumes(); !slices.Equal(got, want) {
		t.Fatalf("Volumes: %v; want %v", got, want)
	}
	if got, want := m.Dump(), r.dump(); !slices.Equal(got, want) {
		t.Fatalf("Dump: %s; want %s", short(got...), short(want...))
	}
	if got, want := m.Count(), len(r.chunks); got != want {
		t.Fatalf("Count: %d; want %d", got, want)
	}
	for _, id := range r.ids() {
		r.agreesOn(t, m, id)
	}
}

// agreesOn fails the test, unless the chunks of a volume are shared, or are there at all, as the rows tell.
func (r *rows) agreesOn(t testing.TB, m *model.Model, id int) {
	t.Helper()
	for at := range r.vols[id].Size {
		write := order.Write{Id: id, At: at * r.size, Data: zeros(1)}
		discard := order.Discard{Id: id, At: at * r.size, N: 1}
		for _, o := range []order.Order{write, discard} {
			if got, want := m.Wants(o), r.wants(o); got != want {
				t.Fatalf("Wants of %#v: %d; want %d", o, got, want)
			}
		}
	}
}

// does asks both, and fails the test, unless they agree on the answer. It answers the error.
func (r *rows) does(t testing.TB, m *model.Model, o order.Order) api.Errno {
	t.Helper()
	if got, want := m.Wants(o), r.wants(o); got != want {
		t.Fatalf("Wants of %#v: %d; want %d", o, got, want)
	}
	want := r.do(o)
	answers(t, m, o, want)
	return want.Err
}

// answers fails the test, unless the model's answer is that.
func answers(t testing.TB, m *model.Model, o order.Order, want model.Answer) {
	t.Helper()
	got := m.Do(o)
	if got.Err != want.Err || got.Data != want.Data || !slices.Equal(got.Vols, want.Vols) {
		t.Fatalf("%#v: %d, %s, %v; want %d, %s, %v", o, got.Err, short(got.Data), got.Vols, want.Err, short(want.Data), want.Vols)
	}
}

// short tells texts by the first byte of each sector.
func short(list ...string) string {
	var out []string
	for _, s := range list {
		one := ""
		for len(s) >= sectorSize && s[:sectorSize] == strings.Repeat(s[:1], sectorSize) {
			one, s = one+s[:1], s[sectorSize:]
		}
		out = append(out, fmt.Sprintf("%q", one+s))
	}
	return strings.Join(out, " ")
}

// asked does orders, each of which must be OK.
func asked(t testing.TB, m *model.Model, list ...order.Order) {
	t.Helper()
	for _, o := range list {
		if a := m.Do(o); a.Err != api.OK {
			t.Fatalf("%#v: %d", o, a.Err)
		}
	}
}

// made answers a model of chunks of so many sectors, behind orders that are all OK.
func made(t testing.TB, size int, list ...order.Order) *model.Model {
	t.Helper()
	m := model.New(size)
	asked(t, m, list...)
	return m
}

// state is all that may be told of a model.
func state(m *model.Model, size int) string {
	wants := []int{}
	for _, v := range m.Volumes() {
		for at := range v.Size {
			wants = append(wants, m.Wants(order.Write{Id: v.Id, At: at * size, Data: zeros(1)}), m.Wants(order.Discard{Id: v.Id, At: at * size, N: 1}))
		}
	}
	return fmt.Sprint(m.Volumes(), m.Count(), wants, m.Dump())
}

// A mix is orders of chance, most of them such that can be.
type mix struct {
	chance *rand.Rand
	ids    int // Ids go up to that
	places int // volumes' sizes too
	wild   int // one of so many orders has a number that can't be; 0: none
	letter byte
}

func newMix(seed int64, ids, places int) *mix {
	return &mix{chance: rand.New(rand.NewSource(seed)), ids: ids, places: places, wild: 10}
}

// next answers the next order, of a model that is as r.
func (x *mix) next(r *rows) order.Order {
	c := x.chance
	id, to, size := x.id(r, true), x.id(r, false), c.Intn(x.places+1)
	at, n := x.sectors(r, id)
	data := x.letters(n)
	if x.wild > 0 && c.Intn(x.wild) == 0 {
		end := ends()[c.Intn(len(ends()))]
		for _, field := range []*int{&id, &to, &size, &at, &n} {
			if c.Intn(5) == 0 {
				*field = end
			}
		}
		data = data[:c.Intn(len(data)+1)]
	}
	switch d := c.Intn(100); {
	case d < 38:
		return order.Write{Id: id, At: at, Data: data}
	case d < 50:
		return order.Read{Id: id, At: at, N: n}
	case d < 66:
		return order.Discard{Id: id, At: at, N: n}
	case d < 76:
		return order.Snap{From: id, To: to}
	case d < 81:
		return order.Create{Id: to, Size: size}
	case d < 86:
		return order.Delete{Id: id}
	case d < 90:
		return order.Resize{Id: id, Size: size}
	case d < 93:
		return order.Pin{Id: id}
	case d < 95:
		return order.Free{Id: id}
	case d < 97:
		return order.Status{}
	}
	return others()[c.Intn(len(others()))]
}

// id answers an Id: most often that of a volume, or of none.
func (x *mix) id(r *rows, is bool) int {
	var list []int
	for id := 1; id <= x.ids; id++ {
		if (r.miss(id) == api.OK) == is {
			list = append(list, id)
		}
	}
	if len(list) == 0 || x.chance.Intn(12) == 0 {
		return 1 + x.chance.Intn(x.ids)
	}
	return list[x.chance.Intn(len(list))]
}

// sectors answers a range: most often one that the volume has, and often of whole chunks.
func (x *mix) sectors(r *rows, id int) (int, int) {
	c := x.chance
	n, whole := 1+c.Intn(2*r.size), c.Intn(2) == 0
	if whole {
		n = r.size * (1 + c.Intn(2))
	}
	last := x.places * r.size
	if v, is := r.vols[id]; is && c.Intn(12) > 0 {
		n = min(n, max(v.Size*r.size, 1))
		last = v.Size*r.size - n
	}
	at := c.Intn(max(last, 0) + 1)
	if whole {
		at -= at % r.size
	}
	return at, n
}

// letters answers n sectors, each with bytes that few others have; some are zeros, as if nothing were written.
func (x *mix) letters(n int) string {
	var out strings.Builder
	for range n {
		x.letter++
		if x.chance.Intn(8) == 0 {
			out.WriteByte(0)
		} else {
			out.WriteByte(x.letter)
		}
	}
	return secs(out.String())
}
