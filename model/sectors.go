package model

import (
	"strings"

	"tierce/api"
	"tierce/order"
)

// piece is what a range of sectors touches of a place: n sectors, from that of the chunk on; so many of the range are ahead of them.
type piece struct {
	at    int
	from  int
	n     int
	ahead int
}

// step is what is done to a piece: its chunk is let go, or its sectors become a text.
type step struct {
	piece
	drop bool
	text string
}

// zeros answers n sectors of zeros.
func zeros(n int) string { return strings.Repeat("\x00", n*api.SectorSize) }

// part answers n sectors of a text, from one on.
func part(s string, from, n int) string {
	return s[from*api.SectorSize : (from+n)*api.SectorSize]
}

// chunk answers the sectors of a place.
func (m *Model) chunk(x place) string {
	if x.chunk == 0 {
		return zeros(m.size)
	}
	return x.text
}

// pieces answers the pieces of a range of a volume's sectors, rising; beside an error there are none, so that callers have nothing to do.
func (m *Model) pieces(v *volume, at, n int) ([]piece, api.Errno) {
	switch {
	case at < 0 || n < 1 || n > 2*m.size:
		return nil, api.ErrArg
	case at > v.Size*m.size-n: // not the sum of at and n, since that might wrap round
		return nil, api.ErrRange
	}
	var list []piece
	for ahead := 0; ahead < n; {
		x := piece{at: (at + ahead) / m.size, from: (at + ahead) % m.size, ahead: ahead}
		x.n = min(m.size-x.from, n-ahead)
		list = append(list, x)
		ahead += x.n
	}
	return list, api.OK
}

// read answers the sectors that a Read asks for.
func (m *Model) read(o order.Read) (string, api.Errno) {
	v := m.find(o.Id)
	if v == nil {
		return "", api.ErrMiss
	}
	list, e := m.pieces(v, o.At, o.N)
	var out strings.Builder
	for _, x := range list {
		out.WriteString(part(m.chunk(v.places[x.at]), x.from, x.n))
	}
	return out.String(), e
}

// edit does what a Write or a Discard asks.
func (m *Model) edit(o order.Order) api.Errno {
	v, list, e := m.steps(o)
	for _, x := range list {
		m.apply(v, x)
	}
	return e
}

// steps answers the volume of a Write or a Discard, and what is done there, rising; of other orders, and beside an error, there is nothing to do.
func (m *Model) steps(o order.Order) (*volume, []step, api.Errno) {
	switch o := o.(type) {
	case order.Write:
		v := m.find(o.Id)
		list, e := m.writes(v, o)
		return v, list, e
	case order.Discard:
		v := m.find(o.Id)
		list, e := m.discards(v, o)
		return v, list, e
	}
	return nil, nil, api.OK
}

// writes answers what a Write does to a volume.
func (m *Model) writes(v *volume, o order.Write) ([]step, api.Errno) {
	switch {
	case v == nil:
		return nil, api.ErrMiss
	case len(o.Data)%api.SectorSize != 0:
		return nil, api.ErrArg
	}
	list, e := m.pieces(v, o.At, len(o.Data)/api.SectorSize)
	var steps []step
	for _, x := range list {
		steps = append(steps, step{piece: x, text: part(o.Data, x.ahead, x.n)})
	}
	return steps, e
}

// discards answers what a Discard does to a volume: nothing, where no chunk stands.
func (m *Model) discards(v *volume, o order.Discard) ([]step, api.Errno) {
	if v == nil {
		return nil, api.ErrMiss
	}
	list, e := m.pieces(v, o.At, o.N)
	var steps []step
	for _, x := range list {
		if v.places[x.at].chunk != 0 {
			steps = append(steps, step{piece: x, drop: x.n == m.size, text: zeros(x.n)})
		}
	}
	return steps, e
}

// apply does one step.
func (m *Model) apply(v *volume, x step) {
	if x.drop {
		v.places[x.at] = place{}
		return
	}
	next := v.places[x.at]
	if m.wantsNew(v, x) {
		m.last++
		next.chunk = m.last
	}
	text := []byte(m.chunk(v.places[x.at]))
	copy(text[x.from*api.SectorSize:], x.text)
	next.text = string(text)
	v.places[x.at] = next
}

// wantsNew tells whether a step wants a new chunk.
func (m *Model) wantsNew(v *volume, x step) bool {
	return !x.drop && (v.places[x.at].chunk == 0 || m.isShared(v, x.at))
}

// isShared tells whether another volume has the chunk that a volume has at a place. Only Snaps share chunks, so that would be at the same place.
func (m *Model) isShared(v *volume, at int) bool {
	for _, other := range m.all() {
		if other != v && at < other.Size && other.places[at].chunk == v.places[at].chunk {
			return true
		}
	}
	return false
}

// Wants answers how many chunks more there are behind a Write or a Discard.
func (m *Model) Wants(o order.Order) int {
	if m == nil || !canBe(o) {
		return 0
	}
	v, list, _ := m.steps(o)
	n := 0
	for _, x := range list {
		if m.wantsNew(v, x) {
			n++
		}
	}
	return n
}
