package pool

import (
	"tierce/api"
	"tierce/maps"
)

// mostPages is how many pages one change of a map can take at most: of each of three pieces two nodes of each level, and a root.
const mostPages = 3 * (2*api.MaxHeight + 1)

// act is what is done to a piece.
type act int

const (
	pass act = iota // nothing
	here            // its sectors are written where its chunk is
	anew            // it comes to stand in a new chunk
	drop            // its chunk is let go
)

// step is a piece, the chunk that stands there (0: none), and what is done to it.
type step struct {
	piece
	chunk int
	act   act
}

// edit makes ready for what is to be done to pieces of a volume, and does that, rising. No step makes another one's chunk Alone, nor the other way round, so that what was looked at ahead holds for all.
func (p *Pool) edit(v *volume, list []piece, choose func(*volume, piece, int) act, do func(step) api.Errno) api.Errno {
	var steps []step
	e := p.ready(func() (wants, api.Errno) {
		var e api.Errno
		if steps, e = p.plan(v, list, choose); e != api.OK {
			return wants{}, e
		}
		return p.wantsOf(v, steps)
	})
	if e != api.OK {
		return e
	}
	for _, x := range steps {
		if e := do(x); e != api.OK {
			return e
		}
	}
	return api.OK
}

// plan answers what is to be done to each piece.
func (p *Pool) plan(v *volume, list []piece, choose func(*volume, piece, int) act) ([]step, api.Errno) {
	var steps []step
	for _, x := range list {
		chunk, e := maps.Get(p.store, v.Root, x.at)
		if e != api.OK {
			return nil, e
		}
		steps = append(steps, step{piece: x, chunk: chunk, act: choose(v, x, chunk)})
	}
	return steps, api.OK
}

// writes answers what a Write does to a piece.
func (p *Pool) writes(v *volume, x piece, chunk int) act {
	if chunk != 0 && p.owners.Alone(chunk, v.owner(x.at)) {
		return here
	}
	return anew
}

// discards answers what a Discard does to a piece.
func (p *Pool) discards(v *volume, x piece, chunk int) act {
	switch {
	case chunk == 0:
		return pass
	case p.isWhole(x):
		return drop
	}
	return p.writes(v, x, chunk)
}

// wantsOf answers what steps want.
func (p *Pool) wantsOf(v *volume, steps []step) (wants, api.Errno) {
	pages, e := p.pagesFor(v, steps)
	if e != api.OK {
		return wants{}, e
	}
	w := wants{pages: pages}
	for _, x := range steps {
		if x.act == anew {
			w.chunks++
		}
	}
	return w, api.OK
}

// pagesFor answers how many pages must be free for the new nodes of a map; 0, where there are enough for any. The need is enough for all maps that pools make, but one that was opened may have higher ones, and no step may fail for want of pages behind another one. So the map is changed on trial.
func (p *Pool) pagesFor(v *volume, steps []step) (int, api.Errno) {
	free := p.store.Free()
	if free >= mostPages {
		return 0, api.OK
	}
	e := p.rehearse(v.Root, steps)
	pages := free - p.store.Free()
	switch e {
	case api.OK:
	case api.ErrPages:
		pages++ // those that there were, and one more at least
	default:
		return 0, e
	}
	return pages, p.sweep()
}

// rehearse changes a map as steps do, but for the chunks' numbers: how many nodes are new doesn't hang on these.
func (p *Pool) rehearse(root int, steps []step) api.Errno {
	e := api.OK
	for _, x := range steps {
		switch x.act {
		case anew:
			root, e = maps.Set(p.store, root, x.at, api.MaxChunks)
		case drop:
			root, e = maps.Clear(p.store, root, x.at)
		}
		if e != api.OK {
			return e
		}
	}
	return api.OK
}

// write gives the sectors of a piece these bytes, and answers the chunk that stands there then.
func (p *Pool) write(v *volume, x step, text string) (int, api.Errno) {
	if x.act == anew {
		return p.renew(v, x, text)
	}
	if p.way.Chunk == x.chunk {
		p.way = p.way.Stale()
	}
	return x.chunk, p.deck.Write(p.spots[x.chunk], x.from, text)
}

// renew puts a new chunk at the place of a piece, with these bytes there, and else what the old one has.
func (p *Pool) renew(v *volume, x step, text string) (int, api.Errno) {
	spot, e := p.take()
	if e != api.OK {
		return 0, e
	}
	chunk := p.owners.Free()
	root, e := p.fill(v, x, chunk, spot, text)
	if e != api.OK {
		p.give(spot)
		return 0, e
	}
	v.Root = root
	p.owners.Add(chunk, v.owner(x.at))
	p.spots[chunk] = spot
	if x.chunk != 0 {
		p.letGo(x.chunk, v.owner(x.at))
	}
	return chunk, api.OK
}

// take takes a slot for a new chunk: one of the slow tier, if that has room.
func (p *Pool) take() (api.Spot, api.Errno) {
	for tier, s := range p.slots {
		if slot, e := s.Take(); e == api.OK {
			return api.Spot{Tier: tier, Slot: slot}, api.OK
		}
	}
	return api.Spot{}, api.ErrSpace
}

// fill writes a new chunk at a spot, and answers the root of a map with that.
func (p *Pool) fill(v *volume, x step, chunk int, to api.Spot, text string) (int, api.Errno) {
	if e := p.prepare(x, to); e != api.OK {
		return 0, e
	}
	if e := p.deck.Write(to, x.from, text); e != api.OK {
		return 0, e
	}
	return maps.Set(p.store, v.Root, x.at, chunk)
}

// prepare gives a new chunk's spot what the old one has, or zeros, unless the piece is to be all of it.
func (p *Pool) prepare(x step, to api.Spot) api.Errno {
	switch {
	case p.isWhole(x.piece):
		return api.OK
	case x.chunk != 0:
		return p.deck.Copy(p.spots[x.chunk], to)
	}
	return p.deck.Zero(to)
}

// drop lets the chunk at the place of a piece go.
func (p *Pool) drop(v *volume, x step) api.Errno {
	root, e := maps.Clear(p.store, v.Root, x.at)
	if e != api.OK {
		return e
	}
	v.Root = root
	p.letGo(x.chunk, v.owner(x.at))
	return api.OK
}
