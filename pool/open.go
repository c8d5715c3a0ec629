package pool

import (
	"math"

	"tierce/api"
	"tierce/chunk"
	"tierce/disc"
	"tierce/maps"
	"tierce/place"
	"tierce/reach"
	"tierce/store"
	"tierce/tree"
	"tierce/vols"
)

// Open answers the pool that stands on three devices, as it was committed.
func Open(slow, fast, meta *disc.Disc) (*Pool, api.Errno) {
	if slow == nil || fast == nil || meta == nil {
		return nil, api.ErrNil
	}
	st, e := store.Open(meta)
	if e != api.OK {
		return nil, e
	}
	h := st.Head()
	deck, e := chunk.New(slow, fast, h.Chunk)
	if e != api.OK || !hasRoom(deck, h.Slots) {
		return nil, api.ErrForm
	}
	p := poolOf(deck, st)
	if e := p.load(h); e != api.OK {
		return nil, e
	}
	return p, api.OK
}

// hasRoom tells whether a deck has so many slots of each tier, or more.
func hasRoom(deck *chunk.Deck, slots [2]int) bool {
	has := slotsOf(deck)
	return has[api.Slow] >= slots[api.Slow] && has[api.Fast] >= slots[api.Fast]
}

// load makes an empty pool what a head leads to, if that hangs together.
func (p *Pool) load(h api.Head) api.Errno {
	list, places, e := readRoot(p.store, h.Root)
	if e != api.OK {
		return e
	}
	if !place.Good(places, h.Slots) {
		return api.ErrForm
	}
	for _, x := range places {
		p.spots[x.Chunk] = x.Spot
		p.slots[x.Spot.Tier].Mark(x.Spot.Slot)
	}
	for _, v := range list {
		if e := p.loadVolume(v); e != api.OK {
			return e
		}
	}
	// Each chunk that has an owner has a place, so that as many mean the same ones.
	if len(p.owners.Chunks()) != len(places) {
		return api.ErrForm
	}
	return p.keep(h.Root)
}

// readRoot answers the volumes and the places of the root's tree, each rising; ErrForm, if anything else stands there.
func readRoot(st *store.Store, root int) ([]api.Volume, []place.Place, api.Errno) {
	if e := tree.Check(st, root); e != api.OK {
		return nil, nil, e
	}
	pairs, e := tree.Range(st, root, 0, math.MaxUint64)
	if e != api.OK {
		return nil, nil, e
	}
	var list []api.Volume
	var places []place.Place
	for _, pair := range pairs {
		v, isVolume := vols.Read(pair)
		x, isPlace := place.Read(pair)
		switch {
		case isVolume:
			list = append(list, v)
		case isPlace:
			places = append(places, x)
		default:
			return nil, nil, api.ErrForm
		}
	}
	return list, places, api.OK
}

// loadVolume gives an opened pool a volume, and the chunks that stand in its map their owners.
func (p *Pool) loadVolume(v api.Volume) api.Errno {
	if e := tree.Check(p.store, v.Root); e != api.OK {
		return e
	}
	entries, e := maps.List(p.store, v.Root)
	if e != api.OK {
		return e
	}
	if !maps.Good(entries, v.Size) {
		return api.ErrForm
	}
	born := p.bear(v)
	for _, entry := range entries {
		if _, is := p.spots[entry.Chunk]; !is {
			return api.ErrForm
		}
		p.owners.Add(entry.Chunk, born.owner(entry.At))
	}
	return api.OK
}

// keep tells the store and the owners that all of an opened pool is committed; its slots are by Mark.
func (p *Pool) keep(root int) api.Errno {
	pages, e := reach.Pages(p.store, append(p.roots(), root)...)
	if e != api.OK {
		return e
	}
	p.store.Keep(pages...)
	p.kept = pages
	p.owners.Commit()
	return api.OK
}
