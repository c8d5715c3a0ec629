package pool

import (
	"tierce/api"
	"tierce/leaf"
	"tierce/maps"
	"tierce/move"
	"tierce/place"
	"tierce/reach"
	"tierce/tree"
	"tierce/vols"
)

// Of the need: pages for a change's new nodes of maps, and how many pairs a change may bring.
const (
	changePages = 20
	changePairs = 3
)

// wants is what a change wants: so many new chunks, and so many free pages, which are the need or fewer, but of maps that no pool made.
type wants struct {
	chunks int
	pages  int
}

// wantsNothing is for changes without new chunks; the need is always enough for their maps.
func wantsNothing() (wants, api.Errno) { return wants{}, api.OK }

// ready makes ready for a change. What that wants is looked at anew behind a commit, since chunks that weren't Alone may be so then.
func (p *Pool) ready(look func() (wants, api.Errno)) api.Errno {
	if e := p.sweep(); e != api.OK {
		return e
	}
	if e := p.lack(look); e != api.ErrSpace && e != api.ErrPages {
		return e
	}
	p.stop()
	if e := p.commit(); e != api.OK {
		return e
	}
	return p.lack(look)
}

// lack answers of what there is too little for a change; OK: of nothing.
func (p *Pool) lack(look func() (wants, api.Errno)) api.Errno {
	w, e := look()
	switch {
	case e != api.OK:
		return e
	case p.room() < w.chunks:
		return api.ErrSpace
	case p.store.Free() < max(p.need(), w.pages):
		return api.ErrPages
	}
	return api.OK
}

// room answers how many new chunks both tiers have room for.
func (p *Pool) room() int {
	return p.slots[api.Slow].Room() + p.slots[api.Fast].Room()
}

// need answers how many pages must be free ahead of a change, so that this and the commit behind it have room.
func (p *Pool) need() int {
	return changePages + 2*nodesOf(len(p.all())+len(p.spots)+changePairs)
}

// nodesOf answers how many nodes a tree of so many pairs has, as it is built.
func nodesOf(pairs int) int {
	nodes := 0
	for n := pairs; n > 0; {
		n = (n + leaf.Most - 1) / leaf.Most
		nodes += n
		if n == 1 {
			break
		}
	}
	return nodes
}

// roots answers the roots of all volumes' maps.
func (p *Pool) roots() []int {
	var list []int
	for _, v := range p.all() {
		list = append(list, v.Root)
	}
	return list
}

// sweep makes the new pages free that no volume's map needs.
func (p *Pool) sweep() api.Errno {
	pages, e := reach.Pages(p.store, p.roots()...)
	if e != api.OK {
		return e
	}
	p.store.Sweep(pages...)
	return api.OK
}

// commit makes all safe as it is now.
func (p *Pool) commit() api.Errno {
	pairs, e := p.pairs()
	if e != api.OK {
		return e
	}
	// Where the tree has no room nothing may be changed, so that is known ahead of all.
	if e := p.makeRoom(nodesOf(len(pairs))); e != api.OK {
		return e
	}
	for tier := range p.slots {
		if e := p.deck.Flush(tier); e != api.OK {
			return e
		}
	}
	if e := p.commitPages(pairs); e != api.OK {
		p.sweep() // the pages of a tree that isn't committed
		return e
	}
	for _, s := range p.slots {
		s.Commit()
	}
	p.owners.Commit()
	return api.OK
}

// makeRoom answers whether so many pages are free, if need be by a sweep.
func (p *Pool) makeRoom(pages int) api.Errno {
	if p.store.Free() >= pages {
		return api.OK
	}
	if e := p.sweep(); e != api.OK {
		return e
	}
	if p.store.Free() < pages {
		return api.ErrPages
	}
	return api.OK
}

// commitPages builds a tree of these pairs, and commits that and all maps; other new pages are swept by that.
func (p *Pool) commitPages(pairs []api.Pair) api.Errno {
	root, e := tree.Build(p.store, pairs)
	if e != api.OK {
		return e
	}
	pages, e := reach.Pages(p.store, append(p.roots(), root)...)
	if e != api.OK {
		return e
	}
	if e := p.store.Commit(root, pages...); e != api.OK {
		return e
	}
	p.kept = pages
	return api.OK
}

// pairs answers the pairs of all volumes, and of the places of all chunks, rising.
func (p *Pool) pairs() ([]api.Pair, api.Errno) {
	var list []api.Pair
	for _, v := range p.all() {
		pair, e := vols.Pair(v.Volume)
		if e != api.OK {
			return nil, e
		}
		list = append(list, pair)
	}
	for _, chunk := range p.owners.Chunks() {
		pair, e := place.Pair(place.Place{Chunk: chunk, Spot: p.spots[chunk]})
		if e != api.OK {
			return nil, e
		}
		list = append(list, pair)
	}
	return list, api.OK
}

// stop stops the chunk that is on its way, if there is one.
func (p *Pool) stop() {
	if p.way.Busy() {
		p.give(p.way.To)
	}
	p.way = move.Move{}
}

// give gives a slot back.
func (p *Pool) give(s api.Spot) { p.slots[s.Tier].Give(s.Slot) }

// letGo takes a chunk from an owner. With the last one all is forgotten that is known of it; its number may come again.
func (p *Pool) letGo(chunk int, o api.Owner) {
	last, _ := p.owners.Remove(chunk, o)
	if !last {
		return
	}
	p.give(p.spots[chunk])
	delete(p.spots, chunk)
	p.heats.Forget(chunk)
	if p.way.Chunk == chunk {
		p.stop()
	}
}

// letAllGo takes the chunks of these entries from a volume.
func (p *Pool) letAllGo(v *volume, entries []maps.Entry) {
	for _, entry := range entries {
		p.letGo(entry.Chunk, v.owner(entry.At))
	}
}

// Flush makes all safe.
func (p *Pool) Flush() api.Errno {
	return p.call(p.commit)
}
