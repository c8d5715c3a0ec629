package pool

import (
	"tierce/api"
	"tierce/maps"
)

// Create lets a volume come to be, of so many chunks of zeros.
func (p *Pool) Create(id, size int) api.Errno {
	return p.call(func() api.Errno {
		switch {
		case !isId(id) || !isSize(size):
			return api.ErrArg
		case p.find(id) != nil:
			return api.ErrDup
		}
		if e := p.ready(wantsNothing); e != api.OK {
			return e
		}
		p.bear(api.Volume{Id: id, Size: size})
		return api.OK
	})
}

// Delete lets a volume go, and its chunks.
func (p *Pool) Delete(id int) api.Errno {
	return p.callOf(id, func(v *volume) api.Errno {
		entries, e := maps.List(p.store, v.Root)
		if e != api.OK {
			return e
		}
		p.letAllGo(v, entries)
		p.vols[id] = nil
		return api.OK
	})
}

// Snap lets a volume come to be that has what another one has; they share all chunks, and the map.
func (p *Pool) Snap(from, to int) api.Errno {
	return p.callOf(from, func(v *volume) api.Errno {
		switch {
		case !isId(to):
			return api.ErrArg
		case p.find(to) != nil:
			return api.ErrDup
		}
		if e := p.ready(wantsNothing); e != api.OK {
			return e
		}
		entries, e := maps.List(p.store, v.Root)
		if e != api.OK {
			return e
		}
		born := p.bear(api.Volume{Id: to, Size: v.Size, Root: v.Root, From: from})
		for _, entry := range entries {
			p.owners.Add(entry.Chunk, born.owner(entry.At))
		}
		return api.OK
	})
}

// Resize gives a volume so many chunks; those behind them are let go.
func (p *Pool) Resize(id, size int) api.Errno {
	return p.callOf(id, func(v *volume) api.Errno {
		if !isSize(size) {
			return api.ErrArg
		}
		if e := p.ready(wantsNothing); e != api.OK {
			return e
		}
		root, gone, e := maps.Trim(p.store, v.Root, size)
		if e != api.OK {
			return e
		}
		v.Root, v.Size = root, size
		p.letAllGo(v, gone)
		return api.OK
	})
}

// Pin says whether a volume is pinned: its chunks come to the fast tier then, and stay.
func (p *Pool) Pin(id int, is bool) api.Errno {
	return p.callOf(id, func(v *volume) api.Errno {
		v.Pinned = is
		return api.OK
	})
}
