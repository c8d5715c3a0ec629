package model

import (
	"cmp"
	"slices"
	"strings"

	"tierce/api"
)

// Dump answers all sectors of each volume, rising.
func (m *Model) Dump() []string {
	var list []string
	for _, v := range m.all() {
		var out strings.Builder
		for _, x := range v.places {
			out.WriteString(m.chunk(x))
		}
		list = append(list, out.String())
	}
	return list
}

// Count answers how many chunks there are.
func (m *Model) Count() int {
	return len(slices.CompactFunc(m.chunks(), func(a, b place) bool { return a.chunk == b.chunk }))
}

// chunks answers the chunks of all places, by rising numbers: a shared one as often as it is.
func (m *Model) chunks() []place {
	var list []place
	for _, v := range m.all() {
		for _, x := range v.places {
			if x.chunk != 0 {
				list = append(list, x)
			}
		}
	}
	slices.SortFunc(list, func(a, b place) int { return cmp.Compare(a.chunk, b.chunk) })
	return list
}

// Restore gives all chunks the sectors that a text for each volume tells; false: these can't be, and nothing is done.
func (m *Model) Restore(dump []string) bool {
	if m == nil {
		return false
	}
	c := m.Copy()
	if !c.put(dump) || !c.agrees() {
		return false
	}
	m.vols = c.vols
	return true
}

// put gives all places what the texts tell; false: there is no room for that.
func (m *Model) put(dump []string) bool {
	all := m.all()
	if len(dump) != len(all) {
		return false
	}
	for i, v := range all {
		if len(dump[i]) != v.Size*m.size*api.SectorSize {
			return false
		}
		for at, x := range v.places {
			text := part(dump[i], at*m.size, m.size)
			if x.chunk != 0 {
				v.places[at].text = strings.Clone(text)
			} else if text != zeros(m.size) {
				return false
			}
		}
	}
	return true
}

// agrees tells whether each chunk has the same sectors wherever it stands.
func (m *Model) agrees() bool {
	list := m.chunks()
	for i := 1; i < len(list); i++ {
		if list[i] != list[i-1] && list[i].chunk == list[i-1].chunk {
			return false
		}
	}
	return true
}
