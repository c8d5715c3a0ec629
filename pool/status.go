package pool

import (
	"slices"

	"tierce/api"
	"tierce/maps"
	"tierce/reach"
)

// Status answers how the pool stands.
func (p *Pool) Status() Status {
	if p == nil {
		return Status{}
	}
	return Status{
		Chunks: len(p.spots),
		Room:   p.room(),
		Pages:  p.pages(),
		Need:   p.need(),
		Dirty:  p.deck.Loose(api.Fast),
		Waits:  p.waiting(),
		Moving: p.way.Busy(),
		Gen:    int(p.store.Head().Gen),
	}
}

// pages answers how many pages would be free, if the new ones that no map needs were swept. They aren't: what is asked changes nothing.
func (p *Pool) pages() int {
	needed, e := reach.Pages(p.store, p.roots()...)
	if e != api.OK {
		return 0
	}
	pages := p.store.Free() + p.store.Fresh()
	for _, page := range needed {
		if _, is := slices.BinarySearch(p.kept, page); !is {
			pages--
		}
	}
	return pages
}

// waiting answers how many chunks of pinned volumes are on the slow tier.
func (p *Pool) waiting() int {
	n := 0
	for chunk, spot := range p.spots {
		if spot.Tier == api.Slow && p.isPinned(chunk) {
			n++
		}
	}
	return n
}

// Volumes answers all volumes, rising, with the pages of their maps.
func (p *Pool) Volumes() []api.Volume {
	if p == nil {
		return nil
	}
	var list []api.Volume
	for _, v := range p.all() {
		list = append(list, v.Volume)
	}
	return list
}

// Chunk answers the chunk at a place of a volume; 0: none stands there, or there is no such place.
func (p *Pool) Chunk(id, at int) int {
	if p == nil {
		return 0
	}
	v := p.find(id)
	if v == nil {
		return 0
	}
	chunk, _ := maps.Get(p.store, v.Root, at) // 0, where there is an error
	return chunk
}

// Spot answers where a chunk is; false: there is no such chunk.
func (p *Pool) Spot(chunk int) (api.Spot, bool) {
	if p == nil {
		return api.Spot{}, false
	}
	spot, is := p.spots[chunk]
	return spot, is
}

// Owners answers who owns a chunk, rising.
func (p *Pool) Owners(chunk int) []api.Owner {
	if p == nil {
		return nil
	}
	return p.owners.List(chunk)
}
