package seat

import (
	"slices"
	"strings"

	"gazetteer/api"
	"gazetteer/atlas"
	"gazetteer/note"
	"gazetteer/once"
	"gazetteer/sortkey"
	"gazetteer/span"
)

// none is the place of what is not awaited.
const none = -1

// state is what was decided, and what is awaited. It is a value: a step makes another one, so that a step can be made durable ahead of being taken.
type state struct {
	atlas   atlas.Atlas // committed
	next    atlas.Atlas // planned, till it is committed
	bundles []note.Note // what has come of the shards that next takes away
	waits   []note.Note // what is sent at each tick, each till its answer has come
}

// fresh answers the state of a new seat: the first shard is to be installed, empty.
func fresh() state {
	a := atlas.First(1)
	return state{atlas: a, waits: []note.Note{about(note.Install, a.L[0])}}
}

// busy tells whether something is awaited. While a change is at work something is.
func (s state) busy() bool { return len(s.waits) > 0 }

// plan answers the state in which the shards that c takes away are to be frozen. ErrBusy: something is awaited; else atlas's error.
func (s state) plan(c change, nodes int) (state, api.Errno) {
	if s.busy() {
		return state{}, api.ErrBusy
	}
	next, gone, e := c.of(s.atlas, nodes)
	if e != api.OK {
		return state{}, e
	}
	p := state{atlas: s.atlas, next: next}
	for _, i := range gone {
		p.waits = append(p.waits, about(note.Freeze, s.atlas.L[i]))
	}
	return p, api.OK
}

// place answers the place of what n is the answer to (none: n is not awaited).
func (s state) place(n note.Note) int {
	return slices.IndexFunc(s.waits, func(w note.Note) bool {
		return n.Kind == answer(w.Kind) && n.From == w.To && n.To == w.From && n.Span == w.Span && n.Epoch == w.Epoch
	})
}

// hear answers the state behind n, which it keeps; false: n is not awaited.
func (s state) hear(t api.Table, n note.Note) (state, bool) {
	i := s.place(n)
	if i == none {
		return state{}, false
	}
	s.waits = slices.Delete(slices.Clone(s.waits), i, i+1)
	if n.Kind != note.Bundle {
		return s, true
	}
	s.bundles = append(slices.Clone(s.bundles), n)
	if s.busy() {
		return s, true
	}
	return s.commit(t), true
}

// commit answers the state in which next is the atlas: its new shards are to be installed, with what the bundles have of them, and those that are gone to be forgotten.
func (s state) commit(t api.Table) state {
	slices.SortFunc(s.bundles, func(a, b note.Note) int { return strings.Compare(a.Span.From, b.Span.From) })
	done := state{atlas: s.next}
	for _, x := range s.next.L {
		if x.Epoch == s.next.Epoch {
			done.waits = append(done.waits, install(t, x, s.bundles))
		}
	}
	for _, b := range s.bundles {
		done.waits = append(done.waits, about(note.Forget, atlas.Shard{Span: b.Span, Node: b.From, Epoch: b.Epoch}))
	}
	return done
}

// install answers the note that installs x with the records of bundles that are x's, and all their last answers: nobody knows which keys these were about.
func install(t api.Table, x atlas.Shard, bundles []note.Note) note.Note {
	n := about(note.Install, x)
	for _, b := range bundles {
		for _, r := range b.L {
			if key, e := sortkey.Make(t, r.Text); e == api.OK && span.Has(x.Span, key) {
				n.L = append(n.L, r)
			}
		}
		n.Last = once.Merge(n.Last, b.Last)
	}
	return n
}

// notes answers what is sent at a tick, in new memory. Last answers that were merged are by client, so Merge copies them as they stand.
func (s state) notes() []note.Note {
	var l []note.Note
	for _, n := range s.waits {
		n.L, n.Last = slices.Clone(n.L), once.Merge(n.Last, nil)
		l = append(l, n)
	}
	return l
}

// about answers a note of that kind, from the seat to x's node, about x.
func about(kind int, x atlas.Shard) note.Note {
	return note.Note{Kind: kind, From: party, To: x.Node, Span: x.Span, Epoch: x.Epoch}
}

// answer answers the kind of the notes that are awaited where one of that kind was sent (0: none).
func answer(kind int) int {
	switch kind {
	case note.Freeze:
		return note.Bundle
	case note.Install:
		return note.Done
	case note.Forget:
		return note.Gone
	}
	return 0
}

// copied answers a with a list of its own.
func copied(a atlas.Atlas) atlas.Atlas {
	a.L = slices.Clone(a.L)
	return a
}
