package pool

import (
	"slices"
	"strings"

	"tierce/api"
	"tierce/maps"
)

// piece is what a range of sectors touches of a place: n sectors, from that of the chunk on; so many of the range are ahead of them.
type piece struct {
	at    int
	from  int
	n     int
	ahead int
}

// of answers the piece's bytes of those of a whole range.
func (x piece) of(s string) string {
	return s[x.ahead*api.SectorSize : (x.ahead+x.n)*api.SectorSize]
}

// pieces answers the pieces of a range of a volume's sectors, rising.
func (p *Pool) pieces(v *volume, at, n int) ([]piece, api.Errno) {
	size := p.deck.Size()
	switch {
	case at < 0 || n < 1 || n > 2*size:
		return nil, api.ErrArg
	case at > v.Size*size-n: // not the sum of at and n, since that might wrap round
		return nil, api.ErrRange
	}
	var list []piece
	for ahead := 0; ahead < n; {
		from := (at + ahead) % size
		part := min(size-from, n-ahead)
		list = append(list, piece{at: (at + ahead) / size, from: from, n: part, ahead: ahead})
		ahead += part
	}
	return list, api.OK
}

// isWhole tells whether a piece is the whole chunk.
func (p *Pool) isWhole(x piece) bool { return x.n == p.deck.Size() }

// zeros answers n sectors of zeros.
func zeros(n int) string { return strings.Repeat("\x00", n*api.SectorSize) }

// Read answers n sectors of a volume.
func (p *Pool) Read(id, at, n int) (string, api.Errno) {
	var text string
	e := p.callOf(id, func(v *volume) api.Errno {
		list, e := p.pieces(v, at, n)
		if e != api.OK {
			return e
		}
		text, e = p.readAll(v, list)
		return e
	})
	if e != api.OK {
		return "", e
	}
	return text, api.OK
}

// readAll answers the sectors of pieces, and touches their chunks, behind all that may fail.
func (p *Pool) readAll(v *volume, list []piece) (string, api.Errno) {
	var out strings.Builder
	var chunks []int
	for _, x := range list {
		chunk, e := maps.Get(p.store, v.Root, x.at)
		if e != api.OK {
			return "", e
		}
		text := zeros(x.n)
		if chunk != 0 {
			chunks = append(chunks, chunk)
			if text, e = p.deck.Read(p.spots[chunk], x.from, x.n); e != api.OK {
				return "", e
			}
		}
		out.WriteString(text)
	}
	// A volume that was opened may have one chunk at several places.
	slices.Sort(chunks)
	for _, chunk := range slices.Compact(chunks) {
		p.heats.Touch(chunk, 1)
	}
	return out.String(), api.OK
}

// Write gives sectors of a volume these bytes.
func (p *Pool) Write(id, at int, s string) api.Errno {
	return p.callOf(id, func(v *volume) api.Errno {
		if len(s)%api.SectorSize != 0 {
			return api.ErrArg
		}
		list, e := p.pieces(v, at, len(s)/api.SectorSize)
		if e != api.OK {
			return e
		}
		return p.edit(v, list, p.writes, func(x step) api.Errno {
			chunk, e := p.write(v, x, x.of(s))
			if e == api.OK {
				p.heats.Touch(chunk, 1)
			}
			return e
		})
	})
}

// Discard makes sectors of a volume zeros; whole chunks are let go.
func (p *Pool) Discard(id, at, n int) api.Errno {
	return p.callOf(id, func(v *volume) api.Errno {
		list, e := p.pieces(v, at, n)
		if e != api.OK {
			return e
		}
		return p.edit(v, list, p.discards, func(x step) api.Errno {
			switch x.act {
			case pass:
				return api.OK
			case drop:
				return p.drop(v, x)
			}
			_, e := p.write(v, x, zeros(x.n))
			return e
		})
	})
}
