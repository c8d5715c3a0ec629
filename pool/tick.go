package pool

import (
	"slices"

	"tierce/api"
	"tierce/move"
	"tierce/rank"
)

// Tick lets the chunk that is on its way go a step; if there is none, one begins, if one should.
func (p *Pool) Tick(pick int) api.Errno {
	return p.call(func() api.Errno {
		if p.way.Busy() {
			return p.goOn()
		}
		return p.begin(pick)
	})
}

// goOn does what is next for the chunk on its way.
func (p *Pool) goOn() api.Errno {
	w := p.way
	e := api.OK
	switch w.Phase {
	case move.Copy:
		e = p.deck.Copy(w.From, w.To)
	case move.Flush:
		e = p.deck.Flush(w.To.Tier)
	case move.Remap:
		p.spots[w.Chunk] = w.To
		p.give(w.From)
	}
	if e != api.OK {
		return e
	}
	if p.way = w.Next(); !p.way.Busy() {
		p.way = move.Move{}
	}
	return api.OK
}

// begin sends a chunk on its way, if one wants to move, and a slot is free where it goes.
func (p *Pool) begin(pick int) api.Errno {
	chunk, tier, is := rank.Wants(p.items(), p.slots[api.Fast].Room(), pick)
	if !is {
		return api.OK
	}
	slot, e := p.slots[tier].Move()
	if e != api.OK {
		return api.OK
	}
	p.way, e = move.New(chunk, p.spots[chunk], api.Spot{Tier: tier, Slot: slot})
	return e
}

// items answers all chunks, rising, as they are ranked.
func (p *Pool) items() []rank.Item {
	var list []rank.Item
	for _, chunk := range p.owners.Chunks() {
		list = append(list, rank.Item{
			Chunk:  chunk,
			Heat:   p.heats.Of(chunk),
			Tier:   p.spots[chunk].Tier,
			Pinned: p.isPinned(chunk),
		})
	}
	return list
}

// isPinned tells whether a pinned volume owns a chunk.
func (p *Pool) isPinned(chunk int) bool {
	return slices.ContainsFunc(p.owners.List(chunk), func(o api.Owner) bool {
		// An owner's volume may be gone, if somebody else wrote to the devices.
		v := p.find(o.Volume)
		return v != nil && v.Pinned
	})
}

// Decay lets all heats fade.
func (p *Pool) Decay() {
	if p != nil {
		p.heats.Decay()
	}
}
