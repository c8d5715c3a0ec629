package model

import (
	"slices"

	"tierce/api"
	"tierce/order"
)

// all answers all volumes, rising.
func (m *Model) all() []*volume {
	if m == nil {
		return nil
	}
	var list []*volume
	for _, v := range m.vols {
		if v != nil {
			list = append(list, v)
		}
	}
	return list
}

// find answers the volume of an Id; nil: there is none.
func (m *Model) find(id int) *volume {
	if !isId(id) {
		return nil
	}
	return m.vols[id]
}

// isId tells whether a volume may have that Id.
func isId(id int) bool { return id >= 1 && id <= api.MaxVolumes }

// isSize tells whether a volume may have so many places.
func isSize(size int) bool { return size >= 0 && size <= api.MaxSize }

// create lets a volume come to be, all zeros.
func (m *Model) create(o order.Create) api.Errno {
	switch {
	case !isId(o.Id) || !isSize(o.Size):
		return api.ErrArg
	case m.find(o.Id) != nil:
		return api.ErrDup
	}
	m.vols[o.Id] = &volume{
		Volume: api.Volume{Id: o.Id, Size: o.Size},
		places: make([]place, o.Size),
	}
	return api.OK
}

// remove lets a volume go.
func (m *Model) remove(o order.Delete) api.Errno {
	if m.find(o.Id) == nil {
		return api.ErrMiss
	}
	m.vols[o.Id] = nil
	return api.OK
}

// snap lets a volume come to be that has what another one has: the same chunks, at the same places.
func (m *Model) snap(o order.Snap) api.Errno {
	v := m.find(o.From)
	switch {
	case v == nil:
		return api.ErrMiss
	case !isId(o.To):
		return api.ErrArg
	case m.find(o.To) != nil:
		return api.ErrDup
	}
	m.vols[o.To] = &volume{
		Volume: api.Volume{Id: o.To, Size: v.Size, From: o.From},
		places: slices.Clone(v.places),
	}
	return api.OK
}

// resize gives a volume so many places; what stands behind them is let go.
func (m *Model) resize(o order.Resize) api.Errno {
	v := m.find(o.Id)
	switch {
	case v == nil:
		return api.ErrMiss
	case !isSize(o.Size):
		return api.ErrArg
	}
	places := make([]place, o.Size)
	copy(places, v.places)
	v.places, v.Size = places, o.Size
	return api.OK
}

// pin says whether a volume is pinned.
func (m *Model) pin(id int, is bool) api.Errno {
	v := m.find(id)
	if v == nil {
		return api.ErrMiss
	}
	v.Pinned = is
	return api.OK
}
