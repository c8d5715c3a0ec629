package tree

import (
	"slices"

	"tierce/api"
)

// Pages is where nodes are read from, and new ones go.
type Pages interface {
	Read(page int) (api.Leaf, api.Errno)
	Add(l api.Leaf) (int, api.Errno)
}

// Shelf is pages in memory: List's nodes at 1, 2, and so on, as many as there is room for.
type Shelf struct {
	List []api.Leaf
	Room int
}

// Read answers the node of a page.
func (s *Shelf) Read(page int) (api.Leaf, api.Errno) {
	if s == nil {
		return api.Leaf{}, api.ErrNil
	}
	if page < 1 || page > len(s.List) {
		return api.Leaf{}, api.ErrRange
	}
	return copyOf(s.List[page-1]), api.OK
}

// Add puts a node behind the others, and answers its page.
func (s *Shelf) Add(l api.Leaf) (int, api.Errno) {
	if s == nil {
		return 0, api.ErrNil
	}
	if len(s.List) >= min(s.Room, api.MaxPages-1) {
		return 0, api.ErrPages
	}
	// List may be a piece of a longer one, of which the rest mustn't change.
	s.List = append(slices.Clip(s.List), copyOf(l))
	return len(s.List), api.OK
}

// copyOf answers a node that shares no memory with l.
func copyOf(l api.Leaf) api.Leaf {
	return api.Leaf{Level: l.Level, List: slices.Clone(l.List)}
}

// read answers the node of a page. No call of this package may panic, whatever pages it is given: where they are nil, or panic as a nil of the caller's own type does, there is no object.
func read(p Pages, page int) (l api.Leaf, e api.Errno) {
	defer func() {
		if recover() != nil {
			l, e = api.Leaf{}, api.ErrNil
		}
	}()
	return p.Read(page)
}

// add adds a node, and answers its page; as to pages that panic it is as read is.
func add(p Pages, l api.Leaf) (page int, e api.Errno) {
	defer func() {
		if recover() != nil {
			page, e = 0, api.ErrNil
		}
	}()
	return p.Add(l)
}
