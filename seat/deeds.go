package seat

import (
	"math"

	"gazetteer/api"
	"gazetteer/atlas"
	"gazetteer/journal"
	"gazetteer/medium"
	"gazetteer/note"
	"gazetteer/parcel"
	"gazetteer/seal"
)

// What a deed of a seat tells. The numbers are apart from those of a store's deeds, so that no seat takes a store's medium for its own.
const (
	begun   = iota + 101 // the seat is new
	settled              // the atlas of a seat that awaits nothing: a Map
	planned              // a change
	heard                // a note that was awaited
	piece                // a part of what the next deed that is no piece tells
)

// What a change may do.
const (
	split = iota + 1
	merge
	move
)

// change is what a command asks for: a split at key, a merge of shard i and the next one, a move of shard i to node.
type change struct {
	do, i, node int
	key         string
}

// of answers the atlas that c makes of a, and the places of the shards that it takes away.
func (c change) of(a atlas.Atlas, nodes int) (atlas.Atlas, []int, api.Errno) {
	switch c.do {
	case split:
		return atlas.Split(a, c.key)
	case merge:
		return atlas.Merge(a, c.i)
	case move:
		return atlas.Move(a, c.i, c.node, nodes)
	}
	return atlas.Atlas{}, nil, api.ErrArg
}

// pack answers the bytes of c. ErrArg: its key is longer than a parcel can say; no note could tell a shard that it ends.
func (c change) pack() ([]byte, api.Errno) {
	p := parcel.NewPacker(math.MaxInt)
	p.Numbers(c.do, c.i, c.node)
	p.Texts(c.key)
	return p.Packed()
}

// readChange answers the change that b is. An error: it is none.
func readChange(b []byte) (change, api.Errno) {
	r := parcel.NewReader(b)
	c := change{do: r.Number(), i: r.Number(), node: r.Number(), key: r.Text()} // the calls are made in the order in which they stand here
	return c, r.End()
}

// write tells b behind what m tells.
func write(m *medium.Medium, do int, b []byte) api.Errno {
	return journal.Write(m, journal.Pieces(do, piece, b)...)
}

// rewrite leaves these deeds on m, and no others; those of a new seat, if there are none.
func rewrite(m *medium.Medium, l []journal.Deed) api.Errno {
	if len(l) == 0 {
		l = journal.Pieces(begun, piece, nil)
	}
	return journal.Rewrite(m, l...)
}

// settle leaves on m that a is committed, and nothing awaited.
func settle(m *medium.Medium, a atlas.Atlas) api.Errno {
	b, e := note.Pack(note.Note{Kind: note.Map, From: party, To: 1, Atlas: a}) // to whom does not matter
	if e != api.OK {
		return e
	}
	return journal.Rewrite(m, journal.Pieces(settled, piece, b)...)
}

// recall answers what m's deeds come to, and those deeds, without what a crash tore; of a medium without a byte the state of a new seat, and none. ErrForm: m's bytes are no seat's. It leaves m as it is.
func recall(t api.Table, m *medium.Medium) (state, []journal.Deed, api.Errno) {
	b := m.Bytes()
	if len(b) == 0 {
		return fresh(), nil, api.OK
	}
	l, lost := journal.Recover(m.Copy())
	s, done, ok := again(t, l)
	if !ok || done == 0 || !torn(b[len(b)-lost:]) {
		return state{}, nil, api.ErrForm
	}
	return s, l[:done], api.OK
}

// torn tells whether b is what a crash may leave of frames: nothing, or the beginning of one. Whatever else does not open was never written by a seat.
func torn(b []byte) bool {
	_, _, _, e := seal.Open(b)
	return e == api.ErrShort
}

// again answers the state that deeds come to, and how many of them it took: pieces without the one that ends them tell nothing. False: they are no seat's.
func again(t api.Table, l []journal.Deed) (state, int, bool) {
	var s state
	var b []byte
	done := 0
	for i, d := range l {
		if !isOwn(d) {
			return state{}, 0, false
		}
		b = append(b, d.L[0].Val...)
		if d.Do == piece {
			continue
		}
		next, ok := s.step(t, d.Do, b)
		if !ok {
			return state{}, 0, false
		}
		s, b, done = next, nil, i+1
	}
	return s, done, true
}

// isOwn tells whether d has what a seat's deed has, and nothing else.
func isOwn(d journal.Deed) bool {
	return len(d.L) == 1 && d.L[0].Text == "" && d.Err == api.OK && d.Epoch == 0 && d.Ask == api.Ask{} && d.Span == api.Span{}
}

// step answers the state behind what a deed tells. False: it cannot have come about. How many nodes there are is not asked, as the seat may have been opened with others.
func (s state) step(t api.Table, do int, b []byte) (state, bool) {
	first := s.atlas.Epoch == 0
	switch do {
	case begun:
		return fresh(), first && len(b) == 0
	case settled:
		n, e := note.Read(b)
		return state{atlas: n.Atlas}, first && e == api.OK && n.Kind == note.Map
	case planned:
		c, wrong := readChange(b)
		next, e := s.plan(c, api.MaxNodes)
		return next, wrong == api.OK && e == api.OK
	case heard:
		n, e := note.Read(b)
		next, ok := s.hear(t, n)
		return next, e == api.OK && ok
	}
	return state{}, false
}
