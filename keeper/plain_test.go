package keeper

import (
	"fmt"
	"reflect"
	"slices"
	"testing"

	"gazetteer/api"
	"gazetteer/atlas"
	"gazetteer/medium"
	"gazetteer/note"
	"gazetteer/once"
	"gazetteer/sortkey"
	"gazetteer/store"
)

// dice answers numbers that look like any, the same each time.
func dice(state uint64) func(most int) int {
	return func(most int) int {
		state = state*6364136223846793005 + 1442695040888963407
		return int(state>>33) % most
	}
}

func pick[T any](roll func(int) int, l []T) T { return l[roll(len(l))] }

// table has é taken apart, letters from a to z, and U+00AD that weighs nothing.
func table() api.Table {
	t := api.Table{
		Lore: []api.Lore{{R: 0xe9, To: []rune{'e', 0x301}}, {R: 0x301, Class: 230}},
		Rows: []api.Row{{Of: []rune{0xad}}, {Of: []rune{0x301}, To: []api.Element{{S: 3, T: 2}}}},
	}
	for i := range 26 {
		row := api.Row{Of: []rune{rune('a' + i)}, To: []api.Element{{P: 10 + i, S: 2, T: 2}}}
		t.Rows = slices.Insert(t.Rows, i, row)
	}
	return t
}

// badTable is one that may not be.
func badTable() api.Table {
	t := table()
	t.Top = -1
	return t
}

// made are the keys of texts that were asked for, as runs ask for the same ones again and again.
var made = map[string]string{}

func key(text string) string {
	if k, ok := made[text]; ok {
		return k
	}
	k, e := sortkey.Make(table(), text)
	if e != api.OK {
		panic("no key: " + text)
	}
	made[text] = k
	return k
}

// keys answers the span of the texts from one on that are ahead of another (none: of all behind).
func keys(from, to string) api.Span {
	s := api.Span{}
	if from != "" {
		s.From = key(from)
	}
	if to != "" {
		s.To = key(to)
	}
	return s
}

func all() api.Span { return api.Span{} }

func recs(l ...string) []api.Record {
	var out []api.Record
	for _, text := range l {
		out = append(out, api.Record{Text: text, Val: "v" + text})
	}
	return out
}

func last(client, seq int) once.Last {
	return once.Last{Seq: seq, Reply: api.Reply{Client: client, Seq: seq, Found: true, L: recs("l")}}
}

// What clients ask.

func aPut(client, seq int, text, val string) api.Ask {
	return api.Ask{Do: 1, Client: client, Seq: seq, Text: text, Val: val}
}

func aDelete(client, seq int, text string) api.Ask {
	return api.Ask{Do: 2, Client: client, Seq: seq, Text: text}
}

func aGet(client, seq int, text string) api.Ask {
	return api.Ask{Do: 3, Client: client, Seq: seq, Text: text}
}

func aPage(client, seq int, from, to string, limit int) api.Ask {
	return api.Ask{Do: 4, Client: client, Seq: seq, From: from, To: to, Limit: limit}
}

// asks is the note of a client that asks node 2; answers are the notes of node 2 that answer it.
func asks(a api.Ask) note.Note {
	return note.Note{Kind: note.Ask, From: 100 + a.Client, To: 2, Ask: a}
}

func answers(r api.Reply) []note.Note {
	return []note.Note{{Kind: note.Reply, From: 2, To: 100 + r.Client, Reply: r}}
}

// refused are the notes that send a client elsewhere.
func refused(a api.Ask) []note.Note {
	return answers(api.Reply{Client: a.Client, Seq: a.Seq, Err: api.ErrEpoch})
}

// to is a note of the seat to node 2 about a span; by are the notes of node 2 that answer it.
func to(kind int, x api.Span, epoch int) note.Note {
	return note.Note{Kind: kind, To: 2, Span: x, Epoch: epoch}
}

func by(kind int, x api.Span, epoch int) []note.Note {
	return []note.Note{{Kind: kind, From: 2, Span: x, Epoch: epoch}}
}

// toInstall is a note to node 2 of what it is to hold; bundles are the notes of node 2 that tell what it had.
func toInstall(x api.Span, epoch int, l []api.Record, last ...once.Last) note.Note {
	n := to(note.Install, x, epoch)
	n.L, n.Last = l, last
	return n
}

func bundles(x api.Span, epoch int, l []api.Record, last ...once.Last) []note.Note {
	n := by(note.Bundle, x, epoch)
	n[0].L, n[0].Last = l, last
	return n
}

// granted is a note of the seat to node 2, by an atlas of that epoch.
func granted(tick, epoch int) note.Note {
	return note.Note{Kind: note.Grant, To: 2, Tick: tick, Atlas: atlas.Atlas{Epoch: epoch, L: []atlas.Shard{{Node: 1, Epoch: 1}}}}
}

func want(t *testing.T, what string, got, want any) {
	t.Helper()
	if !reflect.DeepEqual(got, want) {
		t.Fatalf("%s:\n%+v, want\n%+v", what, got, want)
	}
}

// open answers node 2 on m, for 4 records of a span, with leases of so many ticks.
func open(t *testing.T, m *medium.Medium, length int) *Keeper {
	t.Helper()
	k, e := Open(2, table(), m, 4, length)
	if k == nil || e != api.OK {
		t.Fatalf("Open: %v, %v", k, e)
	}
	return k
}

// tick lets k tick, so many times.
func tick(k *Keeper, many int) {
	for range many {
		k.Tick()
	}
}

// hears holds what k answers to a note against what it is to answer.
func hears(t *testing.T, k *Keeper, n note.Note, l []note.Note) {
	t.Helper()
	want(t, fmt.Sprintf("%+v", n), k.Hear(n), l)
}

// leased answers node 2 with a lease of 1000 ticks from tick 1 on, and its medium.
func leased(t *testing.T) (*Keeper, *medium.Medium) {
	t.Helper()
	m := medium.New()
	k := open(t, m, 1000)
	lend(t, k)
	return k, m
}

// lend gives k a lease.
func lend(t *testing.T, k *Keeper) {
	t.Helper()
	k.Tick()
	hears(t, k, granted(k.Clock(), 1), nil)
	want(t, "Leased", k.Leased(), true)
}

// whole is all that a keeper tells without being changed, as a text.
func whole(k *Keeper) string {
	return fmt.Sprintf("clock %d, leased %v, %+v", k.Clock(), k.Leased(), k.List())
}

// plain is node 2 as the promises tell of it: a store, a clock, and the lease that counts, from its first tick to the one behind its last one.
type plain struct {
	store              *store.Store
	length, clock      int
	epoch, since, till int
}

func newPlain(t *testing.T, length int) *plain {
	t.Helper()
	p := &plain{length: length}
	p.start(t, medium.New())
	return p
}

// start opens it anew on m.
func (p *plain) start(t *testing.T, m *medium.Medium) {
	t.Helper()
	s, e := store.Open(table(), m, 4)
	want(t, "a store's Open", e, api.OK)
	*p = plain{store: s, length: p.length}
}

func (p *plain) leased() bool { return p.epoch > 0 && p.since <= p.clock && p.clock < p.till }

func (p *plain) tick() []note.Note {
	p.clock++
	return []note.Note{{Kind: note.Beat, From: 2, Tick: p.clock}}
}

func (p *plain) hear(n note.Note) []note.Note {
	if !note.May(n) || n.To != 2 {
		return nil
	}
	switch n.Kind {
	case note.Grant:
		if n.Tick < 1 || n.Tick > p.clock {
			return nil
		}
		till := n.Tick + p.length
		if n.Atlas.Epoch > p.epoch || n.Atlas.Epoch == p.epoch && till > p.till {
			p.epoch, p.since, p.till = n.Atlas.Epoch, n.Tick, till
		}
	case note.Ask:
		r, ok := api.Reply{Client: n.Ask.Client, Seq: n.Ask.Seq, Err: api.ErrEpoch}, true
		if p.leased() {
			r, ok = p.store.Do(n.Ask)
		}
		if ok || r.Err == api.ErrEpoch {
			return []note.Note{{Kind: note.Reply, From: 2, To: n.From, Reply: r}}
		}
	case note.Freeze:
		l, last, e := p.store.Freeze(n.Span, n.Epoch)
		if e == api.OK {
			return bundles(n.Span, n.Epoch, l, last...)
		}
	case note.Install:
		if p.store.Hold(n.Span, n.Epoch, n.L, n.Last) == api.OK {
			return by(note.Done, n.Span, n.Epoch)
		}
	case note.Forget:
		if e := p.store.Drop(n.Span, n.Epoch); e == api.OK || e == api.ErrNone {
			return by(note.Gone, n.Span, n.Epoch)
		}
	}
	return nil
}

// whole is all that a keeper is to tell, as a text.
func (p *plain) whole() string {
	return fmt.Sprintf("clock %d, leased %v, %+v", p.clock, p.leased(), p.store.List())
}
