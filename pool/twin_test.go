package pool_test

import (
	"maps"
	"slices"
	"strings"

	"tierce/api"
	"tierce/move"
	"tierce/place"
	"tierce/pool"
	"tierce/rank"
	"tierce/reach"
	"tierce/tree"
	"tierce/vols"

	charts "tierce/maps"
)

// A twin is what a pool must be by the chapter's words, told by plain lists and sets: which chunk stands where, who owns it now and at the last commit, what each slot is, which pages hold nodes, and, for itself, each volume as a row of sectors. It knows no devices; so it counts which of their sectors are loose, and how often the power is used.

// Numbers of the document, written out, so that these tests hold the limits too.
const (
	slow       = 0
	fast       = 1
	sectorSize = 16
	pageSecs   = 16
	maxChunk   = 8
	maxChunks  = 1023
	maxPages   = 512
	maxSectors = 16384
	maxSize    = 64
	maxSlots   = 256
	maxVolumes = 16
	minPages   = 64
)

// order is what is asked of a pool; which of its parts count hangs on the word.
type order struct {
	word string
	id   int
	to   int
	size int
	at   int
	n    int
	pick int
	pin  bool
	data string
}

// nodes is pages in memory, numbered as a store's are.
type nodes struct {
	list      map[int]api.Leaf
	committed map[int]bool
	pages     int // with that of the heads
}

func (n *nodes) Read(page int) (api.Leaf, api.Errno) {
	l, is := n.list[page]
	if !is {
		return api.Leaf{}, api.ErrRange
	}
	return l, api.OK
}

func (n *nodes) Add(l api.Leaf) (int, api.Errno) {
	for page := 1; page < n.pages; page++ {
		if _, is := n.list[page]; !is {
			n.list[page] = api.Leaf{Level: l.Level, List: slices.Clone(l.List)}
			return page, api.OK
		}
	}
	return 0, api.ErrPages
}

// free answers how many pages hold nothing.
func (n *nodes) free() int { return n.pages - 1 - len(n.list) }

// sweep forgets the pages that are neither committed nor among these.
func (n *nodes) sweep(live []int) {
	maps.DeleteFunc(n.list, func(page int, _ api.Leaf) bool {
		return !n.committed[page] && !slices.Contains(live, page)
	})
}

// commit makes just these pages committed, and answers how many of them weren't.
func (n *nodes) commit(live []int) int {
	fresh := 0
	for _, page := range live {
		if !n.committed[page] {
			fresh++
		}
	}
	n.committed = setOf(live)
	n.sweep(nil)
	return fresh
}

func (n *nodes) copy() *nodes {
	return &nodes{list: maps.Clone(n.list), committed: maps.Clone(n.committed), pages: n.pages}
}

func setOf(list []int) map[int]bool {
	set := map[int]bool{}
	for _, n := range list {
		set[n] = true
	}
	return set
}

// vol is a volume: its chunks by place, 0 for none, and its sectors.
type vol struct {
	api.Volume
	birth  int
	chunks []int
	row    []string
}

func (v *vol) owner(at int) api.Owner { return api.Owner{Volume: v.Id, Birth: v.birth, At: at} }

// which answers the sectors of a range.
func (v *vol) sectors(at, n int) string { return strings.Join(v.row[at:at+n], "") }

// What a slot is.
const (
	isFree  = 'f'
	isNew   = 'n'
	isBound = 'b'
	isLeft  = 'w' // it waits for the next commit
)

// owned tells who owns which chunk.
type owned map[int]map[api.Owner]bool

func (o owned) copy() owned {
	all := owned{}
	for chunk, set := range o {
		all[chunk] = maps.Clone(set)
	}
	return all
}

// way is a chunk between tiers.
type way struct {
	chunk    int
	from, to api.Spot
	phase    int
}

type twin struct {
	size   int
	slots  [2][]byte
	vols   map[int]*vol
	owners owned
	was    owned
	spots  map[int]api.Spot
	heats  map[int]int
	way    *way
	nodes  *nodes
	births int
	gen    int
	loose  [2]map[int]bool
	uses   int
	base   *twin // as it was at the last commit
	since  values
}

// spoken is a sector of a volume, by its birth.
type spoken struct{ birth, sector int }

// values tells what was written to sectors since the last commit, or discarded there.
type values map[spoken]map[string]bool

func (x values) add(birth, sector int, s string) {
	key := spoken{birth, sector}
	if x[key] == nil {
		x[key] = map[string]bool{}
	}
	x[key][s] = true
}

// newTwin answers what a new pool is.
func newTwin(slowSlots, fastSlots, size, pages int) *twin {
	w := &twin{
		size: size, gen: 1,
		slots:  [2][]byte{free(slowSlots), free(fastSlots)},
		vols:   map[int]*vol{},
		owners: owned{}, was: owned{},
		spots: map[int]api.Spot{}, heats: map[int]int{},
		nodes: &nodes{list: map[int]api.Leaf{}, committed: map[int]bool{}, pages: min(pages, maxPages)},
		loose: [2]map[int]bool{{}, {}},
	}
	w.isCommitted()
	return w
}

// isCommitted notes that all is as it was at the last commit.
func (w *twin) isCommitted() { w.base, w.since = w.copy(), values{} }

func free(n int) []byte { return []byte(strings.Repeat(string(isFree), n)) }

func (w *twin) copy() *twin {
	c := *w
	c.slots = [2][]byte{slices.Clone(w.slots[slow]), slices.Clone(w.slots[fast])}
	c.vols = map[int]*vol{}
	for id, v := range w.vols {
		c.vols[id] = &vol{Volume: v.Volume, birth: v.birth, chunks: slices.Clone(v.chunks), row: slices.Clone(v.row)}
	}
	c.owners, c.was = w.owners.copy(), w.was.copy()
	c.spots, c.heats = maps.Clone(w.spots), maps.Clone(w.heats)
	if w.way != nil {
		one := *w.way
		c.way = &one
	}
	c.nodes = w.nodes.copy()
	c.loose = [2]map[int]bool{maps.Clone(w.loose[slow]), maps.Clone(w.loose[fast])}
	return &c
}

// ids answers the Ids of all volumes, rising.
func (w *twin) ids() []int { return slices.Sorted(maps.Keys(w.vols)) }

// chunks answers the chunks that have owners, rising.
func (w *twin) chunks() []int { return slices.Sorted(maps.Keys(w.owners)) }

// Slots.

func (w *twin) room(tier int) int {
	return max(strings.Count(string(w.slots[tier]), string(isFree))-1, 0)
}

func (w *twin) rooms() int { return w.room(slow) + w.room(fast) }

// firstFree uses the lowest free slot; -1: there is none.
func (w *twin) firstFree(tier int) int {
	i := slices.Index(w.slots[tier], isFree)
	if i >= 0 {
		w.slots[tier][i] = isNew
	}
	return i
}

func (w *twin) give(s api.Spot) {
	was := &w.slots[s.Tier][s.Slot]
	if *was == isBound {
		*was = isLeft
	} else {
		*was = isFree
	}
}

// Pages, commits.

func (w *twin) roots() []int {
	var list []int
	for _, id := range w.ids() {
		list = append(list, w.vols[id].Root)
	}
	return list
}

// live answers the pages that maps need.
func (w *twin) live(more ...int) []int {
	list, e := reach.Pages(w.nodes, append(w.roots(), more...)...)
	if e != api.OK {
		panic("the twin's maps aren't sound")
	}
	return list
}

// ifSwept answers how many pages would be free.
func (w *twin) ifSwept() int {
	n := w.nodes.copy()
	n.sweep(w.live())
	return n.free()
}

// built answers how many nodes a tree of so many pairs has.
func built(pairs int) int {
	shelf := &tree.Shelf{Room: maxPages}
	var list []api.Pair
	for i := range pairs {
		list = append(list, api.Pair{Key: uint64(i)})
	}
	if _, e := tree.Build(shelf, list); e != api.OK {
		panic("a tree can't be built")
	}
	return len(shelf.List)
}

func (w *twin) need() int { return 20 + 2*built(len(w.vols)+len(w.owners)+3) }

func (w *twin) pairs() []api.Pair {
	var list []api.Pair
	for _, id := range w.ids() {
		p, _ := vols.Pair(w.vols[id].Volume)
		list = append(list, p)
	}
	for _, chunk := range w.chunks() {
		p, _ := place.Pair(place.Place{Chunk: chunk, Spot: w.spots[chunk]})
		list = append(list, p)
	}
	return list
}

// flush makes a tier's sectors safe.
func (w *twin) flush(tier int) {
	w.uses++
	clear(w.loose[tier])
}

func (w *twin) commit() api.Errno {
	pairs := w.pairs()
	if w.nodes.free() < built(len(pairs)) {
		w.nodes.sweep(w.live())
	}
	if w.nodes.free() < built(len(pairs)) {
		return api.ErrPages
	}
	w.flush(slow)
	w.flush(fast)
	root, _ := tree.Build(w.nodes, pairs)
	// Each new page, a flush, the head, a flush.
	w.uses += w.nodes.commit(w.live(root))*pageSecs + 3
	w.gen++
	for _, list := range w.slots {
		for i, is := range list {
			switch is {
			case isLeft:
				list[i] = isFree
			case isNew:
				list[i] = isBound
			}
		}
	}
	w.was = w.owners.copy()
	w.isCommitted()
	return api.OK
}

func (w *twin) stop() {
	if w.way != nil {
		w.give(w.way.to)
	}
	w.way = nil
}

// ready makes ready for a change; fits tells whether the maps' new nodes have room, since no change may end in its midst.
func (w *twin) ready(wants func() int, fits func() bool) api.Errno {
	w.nodes.sweep(w.live())
	lack := func() api.Errno {
		switch {
		case w.rooms() < wants():
			return api.ErrSpace
		case w.nodes.free() < w.need() || !fits():
			return api.ErrPages
		}
		return api.OK
	}
	if lack() == api.OK {
		return api.OK
	}
	w.stop()
	if e := w.commit(); e != api.OK {
		return e
	}
	return lack()
}

func none() int { return 0 }

func always() bool { return true }

// Owners.

func (w *twin) own(chunk int, o api.Owner) {
	if w.owners[chunk] == nil {
		w.owners[chunk] = map[api.Owner]bool{}
	}
	w.owners[chunk][o] = true
}

// alone tells whether a chunk is an owner's alone, now and at the last commit.
func (w *twin) alone(chunk int, o api.Owner) bool {
	for _, set := range []map[api.Owner]bool{w.owners[chunk], w.was[chunk]} {
		for other := range set {
			if other != o {
				return false
			}
		}
	}
	return w.owners[chunk][o]
}

func (w *twin) freeNumber() int {
	for chunk := 1; ; chunk++ {
		if len(w.owners[chunk]) == 0 && len(w.was[chunk]) == 0 {
			return chunk
		}
	}
}

func (w *twin) letGo(chunk int, o api.Owner) {
	delete(w.owners[chunk], o)
	if len(w.owners[chunk]) > 0 {
		return
	}
	delete(w.owners, chunk)
	w.give(w.spots[chunk])
	delete(w.spots, chunk)
	delete(w.heats, chunk)
	if w.way != nil && w.way.chunk == chunk {
		w.stop()
	}
}

func (w *twin) ownersOf(chunk int) []api.Owner {
	return slices.SortedFunc(maps.Keys(w.owners[chunk]), func(a, b api.Owner) int {
		return slices.Compare([]int{a.Volume, a.Birth, a.At}, []int{b.Volume, b.Birth, b.At})
	})
}

func (w *twin) isPinned(chunk int) bool {
	for o := range w.owners[chunk] {
		if w.vols[o.Volume].Pinned {
			return true
		}
	}
	return false
}

// What is asked.

func (w *twin) do(o order) (string, api.Errno) {
	switch o.word {
	case "create":
		return "", w.create(o.id, o.size)
	case "delete":
		return "", w.delete(o.id)
	case "snap":
		return "", w.snap(o.id, o.to)
	case "resize":
		return "", w.resize(o.id, o.size)
	case "pin":
		return "", w.pin(o.id, o.pin)
	case "read":
		return w.read(o.id, o.at, o.n)
	case "write":
		return "", w.write(o)
	case "discard":
		return "", w.discard(o)
	case "flush":
		return "", w.commit()
	case "tick":
		w.tick(o.pick)
	case "decay":
		for chunk := range w.heats {
			w.heats[chunk] /= 2
		}
	}
	return "", api.OK
}

func (w *twin) create(id, size int) api.Errno {
	switch {
	case id < 1 || id > maxVolumes || size < 0 || size > maxSize:
		return api.ErrArg
	case w.vols[id] != nil:
		return api.ErrDup
	}
	if e := w.ready(none, always); e != api.OK {
		return e
	}
	w.births++
	w.vols[id] = &vol{Volume: api.Volume{Id: id, Size: size}, birth: w.births}
	w.stretch(w.vols[id])
	return api.OK
}

// stretch gives a volume the places that it has no chunks for yet.
func (w *twin) stretch(v *vol) {
	for len(v.chunks) < v.Size {
		v.chunks = append(v.chunks, 0)
		v.row = append(v.row, slices.Repeat([]string{zeros(1)}, w.size)...)
	}
}

func (w *twin) delete(id int) api.Errno {
	v := w.vols[id]
	if v == nil {
		return api.ErrMiss
	}
	w.empty(v, 0)
	delete(w.vols, id)
	return api.OK
}

// empty lets all chunks of a volume go that are at places from one on.
func (w *twin) empty(v *vol, from int) {
	for at := from; at < len(v.chunks); at++ {
		if v.chunks[at] != 0 {
			w.letGo(v.chunks[at], v.owner(at))
		}
	}
}

func (w *twin) snap(from, to int) api.Errno {
	v := w.vols[from]
	switch {
	case v == nil:
		return api.ErrMiss
	case to < 1 || to > maxVolumes:
		return api.ErrArg
	case w.vols[to] != nil:
		return api.ErrDup
	}
	if e := w.ready(none, always); e != api.OK {
		return e
	}
	w.births++
	s := &vol{Volume: api.Volume{Id: to, Size: v.Size, Root: v.Root, From: from}, birth: w.births, chunks: slices.Clone(v.chunks), row: slices.Clone(v.row)}
	w.vols[to] = s
	for at, chunk := range s.chunks {
		if chunk != 0 {
			w.own(chunk, s.owner(at))
		}
	}
	return api.OK
}

func (w *twin) resize(id, size int) api.Errno {
	v := w.vols[id]
	switch {
	case v == nil:
		return api.ErrMiss
	case size < 0 || size > maxSize:
		return api.ErrArg
	}
	if e := w.ready(none, always); e != api.OK {
		return e
	}
	v.Root, _, _ = charts.Trim(w.nodes, v.Root, size)
	w.empty(v, size)
	v.chunks, v.row = v.chunks[:min(size, v.Size)], v.row[:min(size, v.Size)*w.size]
	v.Size = size
	w.stretch(v)
	return api.OK
}

func (w *twin) pin(id int, is bool) api.Errno {
	v := w.vols[id]
	if v == nil {
		return api.ErrMiss
	}
	v.Pinned = is
	return api.OK
}

// part is what a range touches of a place.
type part struct{ at, from, n, ahead int }

func (w *twin) parts(v *vol, at, n int) ([]part, api.Errno) {
	switch {
	case at < 0 || n < 1 || n > 2*w.size:
		return nil, api.ErrArg
	case uint64(at)+uint64(n) > uint64(v.Size*w.size):
		return nil, api.ErrRange
	}
	var list []part
	for i := range n {
		if last := len(list) - 1; last >= 0 && list[last].at == (at+i)/w.size {
			list[last].n++
		} else {
			list = append(list, part{at: (at + i) / w.size, from: (at + i) % w.size, n: 1, ahead: i})
		}
	}
	return list, api.OK
}

func (w *twin) read(id, at, n int) (string, api.Errno) {
	v := w.vols[id]
	if v == nil {
		return "", api.ErrMiss
	}
	list, e := w.parts(v, at, n)
	if e != api.OK {
		return "", e
	}
	read := map[int]bool{}
	for _, x := range list {
		if chunk := v.chunks[x.at]; chunk != 0 && !read[chunk] {
			read[chunk] = true
			w.heats[chunk]++
		}
	}
	return v.sectors(at, n), api.OK
}

func (w *twin) write(o order) api.Errno {
	v, at, s := w.vols[o.id], o.at, o.data
	switch {
	case v == nil:
		return api.ErrMiss
	case len(s)%sectorSize != 0:
		return api.ErrArg
	}
	list, e := w.parts(v, at, len(s)/sectorSize)
	if e != api.OK {
		return e
	}
	wants := func() int {
		n := 0
		for _, x := range list {
			if v.chunks[x.at] == 0 || !w.alone(v.chunks[x.at], v.owner(x.at)) {
				n++
			}
		}
		return n
	}
	fits := func() bool { return w.fits(v, list, false) }
	if e := w.ready(wants, fits); e != api.OK {
		return e
	}
	w.speaks(w.since, o)
	for _, x := range list {
		w.put(v, x, s[x.ahead*sectorSize:(x.ahead+x.n)*sectorSize])
		w.heats[v.chunks[x.at]]++
	}
	return api.OK
}

// fits tells whether the pages have room for what a change does to a map.
func (w *twin) fits(v *vol, list []part, isDiscard bool) bool {
	n, root, e := w.nodes.copy(), v.Root, api.OK
	for _, x := range list {
		chunk := v.chunks[x.at]
		switch {
		case isDiscard && chunk == 0:
		case isDiscard && x.n == w.size:
			root, e = charts.Clear(n, root, x.at)
		case chunk == 0 || !w.alone(chunk, v.owner(x.at)):
			root, e = charts.Set(n, root, x.at, 1)
		}
		if e != api.OK {
			return false
		}
	}
	return true
}

// speaks adds what an order, if it can be, may put into sectors.
func (w *twin) speaks(to values, o order) {
	v := w.vols[o.id]
	if v == nil || o.word != "write" && o.word != "discard" {
		return
	}
	n := o.n
	if o.word == "write" {
		n = len(o.data) / sectorSize
	}
	if _, e := w.parts(v, o.at, n); e != api.OK {
		return
	}
	for i := range n {
		s := zeros(1)
		if o.word == "write" {
			s = o.data[i*sectorSize : (i+1)*sectorSize]
		}
		to.add(v.birth, o.at+i, s)
	}
}

// put writes a piece.
func (w *twin) put(v *vol, x part, s string) {
	for i := range x.n {
		v.row[x.at*w.size+x.from+i] = s[i*sectorSize : (i+1)*sectorSize]
	}
	chunk := v.chunks[x.at]
	if chunk != 0 && w.alone(chunk, v.owner(x.at)) {
		if w.way != nil && w.way.chunk == chunk {
			w.way.phase = move.Copy
		}
		w.used(w.spots[chunk], x.from, x.n)
		return
	}
	spot := api.Spot{Tier: slow}
	if w.room(slow) == 0 {
		spot.Tier = fast
	}
	spot.Slot = w.firstFree(spot.Tier)
	if x.n < w.size {
		w.used(spot, 0, w.size)
	}
	w.used(spot, x.from, x.n)
	fresh := w.freeNumber()
	w.own(fresh, v.owner(x.at))
	w.spots[fresh] = spot
	v.chunks[x.at] = fresh
	v.Root, _ = charts.Set(w.nodes, v.Root, x.at, fresh)
	if chunk != 0 {
		w.letGo(chunk, v.owner(x.at))
	}
}

// used notes sectors of a chunk that are written.
func (w *twin) used(s api.Spot, from, n int) {
	for i := range n {
		w.uses++
		w.loose[s.Tier][s.Slot*w.size+from+i] = true
	}
}

func (w *twin) discard(o order) api.Errno {
	v, at, n := w.vols[o.id], o.at, o.n
	if v == nil {
		return api.ErrMiss
	}
	list, e := w.parts(v, at, n)
	if e != api.OK {
		return e
	}
	wants := func() int {
		n := 0
		for _, x := range list {
			if chunk := v.chunks[x.at]; chunk != 0 && x.n < w.size && !w.alone(chunk, v.owner(x.at)) {
				n++
			}
		}
		return n
	}
	fits := func() bool { return w.fits(v, list, true) }
	if e := w.ready(wants, fits); e != api.OK {
		return e
	}
	w.speaks(w.since, o)
	for _, x := range list {
		chunk := v.chunks[x.at]
		switch {
		case chunk == 0:
		case x.n < w.size:
			w.put(v, x, zeros(x.n))
		default:
			v.chunks[x.at] = 0
			v.Root, _ = charts.Clear(w.nodes, v.Root, x.at)
			w.letGo(chunk, v.owner(x.at))
			copy(v.row[x.at*w.size:], slices.Repeat([]string{zeros(1)}, w.size))
		}
	}
	return api.OK
}

func (w *twin) tick(pick int) {
	if w.way == nil {
		w.begin(pick)
		return
	}
	switch w.way.phase {
	case move.Copy:
		w.used(w.way.to, 0, w.size)
	case move.Flush:
		w.flush(w.way.to.Tier)
	case move.Remap:
		w.spots[w.way.chunk] = w.way.to
		w.give(w.way.from)
		w.way = nil
		return
	}
	w.way.phase++
}

func (w *twin) begin(pick int) {
	var items []rank.Item
	for _, chunk := range w.chunks() {
		items = append(items, rank.Item{Chunk: chunk, Heat: w.heats[chunk], Tier: w.spots[chunk].Tier, Pinned: w.isPinned(chunk)})
	}
	chunk, tier, is := rank.Wants(items, w.room(fast), pick)
	if !is {
		return
	}
	if slot := w.firstFree(tier); slot >= 0 {
		w.way = &way{chunk: chunk, from: w.spots[chunk], to: api.Spot{Tier: tier, Slot: slot}, phase: move.Copy}
	}
}

// What is told.

func (w *twin) status() pool.Status {
	waits := 0
	for chunk, spot := range w.spots {
		if spot.Tier == slow && w.isPinned(chunk) {
			waits++
		}
	}
	return pool.Status{
		Chunks: len(w.owners),
		Room:   w.rooms(),
		Pages:  w.ifSwept(),
		Need:   w.need(),
		Dirty:  len(w.loose[fast]),
		Waits:  waits,
		Moving: w.way != nil,
		Gen:    w.gen,
	}
}

func (w *twin) volumes() []api.Volume {
	var list []api.Volume
	for _, id := range w.ids() {
		list = append(list, w.vols[id].Volume)
	}
	return list
}

// reopened answers what is there when a pool is opened that was committed as w is now; the rows are those of w, and the devices' sectors may be others.
func (w *twin) reopened() *twin {
	c := w.copy()
	c.way = nil
	c.heats = map[int]int{}
	c.loose = [2]map[int]bool{{}, {}}
	c.slots = [2][]byte{free(len(w.slots[slow])), free(len(w.slots[fast]))}
	for _, s := range c.spots {
		c.slots[s.Tier][s.Slot] = isBound
	}
	c.births, c.owners = 0, owned{}
	for _, id := range c.ids() {
		v := c.vols[id]
		c.births++
		v.birth = c.births
		for at, chunk := range v.chunks {
			if chunk != 0 {
				c.own(chunk, v.owner(at))
			}
		}
	}
	c.was = c.owners.copy()
	c.isCommitted()
	return c
}
