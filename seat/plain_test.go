package seat

import (
	"fmt"
	"reflect"
	"slices"
	"testing"

	"gazetteer/api"
	"gazetteer/atlas"
	"gazetteer/medium"
	"gazetteer/note"
	"gazetteer/once"
	"gazetteer/sortkey"
)

// dice answers numbers that look like any, the same each time.
func dice(state uint64) func(most int) int {
	return func(most int) int {
		state = state*6364136223846793005 + 1442695040888963407
		return int(state>>33) % most
	}
}

func pick[T any](roll func(int) int, l []T) T { return l[roll(len(l))] }

// table has é taken apart, letters from a to z, and U+00AD that weighs nothing.
func table() api.Table {
	t := api.Table{
		Lore: []api.Lore{{R: 0xe9, To: []rune{'e', 0x301}}, {R: 0x301, Class: 230}},
		Rows: []api.Row{{Of: []rune{0xad}}, {Of: []rune{0x301}, To: []api.Element{{S: 3, T: 2}}}},
	}
	for i := range 26 {
		row := api.Row{Of: []rune{rune('a' + i)}, To: []api.Element{{P: 10 + i, S: 2, T: 2}}}
		t.Rows = slices.Insert(t.Rows, i, row)
	}
	return t
}

// badTable is one that may not be.
func badTable() api.Table {
	t := table()
	t.Top = -1
	return t
}

// made are the keys of texts that were asked for, as runs ask for the same ones again and again.
var made = map[string]string{}

func key(text string) string {
	if k, ok := made[text]; ok {
		return k
	}
	k, e := sortkey.Make(table(), text)
	if e != api.OK {
		panic("no key: " + text)
	}
	made[text] = k
	return k
}

// keys answers the span of the texts from one on that are ahead of another (none: of all behind).
func keys(from, to string) api.Span {
	s := api.Span{}
	if from != "" {
		s.From = key(from)
	}
	if to != "" {
		s.To = key(to)
	}
	return s
}

func all() api.Span { return api.Span{} }

func rec(text string) api.Record { return api.Record{Text: text, Val: "v" + text} }

func recs(l ...string) []api.Record {
	var out []api.Record
	for _, text := range l {
		out = append(out, rec(text))
	}
	return out
}

func last(client, seq int) once.Last {
	return once.Last{Seq: seq, Reply: api.Reply{Client: client, Seq: seq, Found: true, L: recs("l")}}
}

// to is a note of the seat about a span; by is one of a node to the seat.
func to(kind, node int, x api.Span, epoch int) note.Note {
	return note.Note{Kind: kind, To: node, Span: x, Epoch: epoch}
}

func by(kind, node int, x api.Span, epoch int) note.Note {
	return note.Note{Kind: kind, From: node, Span: x, Epoch: epoch}
}

// bundle is what a node had of a span.
func bundle(node int, x api.Span, epoch int, l []api.Record, last ...once.Last) note.Note {
	n := by(note.Bundle, node, x, epoch)
	n.L, n.Last = l, last
	return n
}

// install is a note to a node of what it is to hold.
func toInstall(node int, x api.Span, epoch int, l []api.Record, last ...once.Last) note.Note {
	n := to(note.Install, node, x, epoch)
	n.L, n.Last = l, last
	return n
}

func shard(x api.Span, node, epoch int) atlas.Shard {
	return atlas.Shard{Span: x, Node: node, Epoch: epoch}
}

func want(t *testing.T, what string, got, want any) {
	t.Helper()
	if !reflect.DeepEqual(got, want) {
		t.Fatalf("%s:\n%+v, want\n%+v", what, got, want)
	}
}

func open(t *testing.T, m *medium.Medium, nodes int) *Seat {
	t.Helper()
	s, e := Open(table(), m, nodes)
	if s == nil || e != api.OK {
		t.Fatalf("Open: %v, %v", s, e)
	}
	return s
}

// installed answers a seat whose first shard is installed, and its medium.
func installed(t *testing.T, nodes int) (*Seat, *medium.Medium) {
	t.Helper()
	m := medium.New()
	s := open(t, m, nodes)
	tell(t, s, by(note.Done, 1, all(), 1))
	return s, m
}

// tell has s hear notes that it is not to answer.
func tell(t *testing.T, s *Seat, l ...note.Note) {
	t.Helper()
	for _, n := range l {
		if got := s.Hear(n); got != nil {
			t.Fatalf("%+v is answered: %+v", n, got)
		}
	}
}

// finish answers what s waits for, as nodes would that have nothing in what is frozen, till nothing is awaited.
func finish(t *testing.T, s *Seat) {
	t.Helper()
	for range 3 {
		for _, n := range s.Tick() {
			tell(t, s, by(answerTo[n.Kind], n.To, n.Span, n.Epoch))
		}
	}
	if s.Busy() {
		t.Fatalf("it waits for %+v", s.Tick())
	}
}

// answerTo tells the kind of the answer to what a seat sends, as the promises list them.
var answerTo = map[int]int{note.Freeze: note.Bundle, note.Install: note.Done, note.Forget: note.Gone}

// whole is all that a seat tells, as a text.
func whole(s *Seat) string { return fmt.Sprintf("%+v %v\n%+v", s.Atlas(), s.Busy(), s.Tick()) }

// plain is a seat as the promises tell of it, without a medium.
type plain struct {
	nodes       int
	atlas, next atlas.Atlas
	gone        []atlas.Shard // those that next takes away
	came        []note.Note   // of each of them its bundle
	awaited     []note.Note   // Install, Forget
}

func newPlain(nodes int) *plain {
	return &plain{nodes: nodes, atlas: atlas.First(1), awaited: []note.Note{to(note.Install, 1, all(), 1)}}
}

func (p *plain) busy() bool { return len(p.gone) > 0 || len(p.awaited) > 0 }

// notes is what is to be sent at a tick.
func (p *plain) notes() []note.Note {
	var l []note.Note
	for i, x := range p.gone {
		if p.came[i].Kind == 0 {
			l = append(l, to(note.Freeze, x.Node, x.Span, x.Epoch))
		}
	}
	return append(l, p.awaited...)
}

// change plans what of answers.
func (p *plain) change(of func(a atlas.Atlas) (atlas.Atlas, []int, api.Errno)) api.Errno {
	if p.busy() {
		return api.ErrBusy
	}
	next, places, e := of(p.atlas)
	if e != api.OK {
		return e
	}
	p.next, p.came = next, make([]note.Note, len(places))
	for _, i := range places {
		p.gone = append(p.gone, p.atlas.L[i])
	}
	return api.OK
}

func (p *plain) split(key string) api.Errno {
	return p.change(func(a atlas.Atlas) (atlas.Atlas, []int, api.Errno) { return atlas.Split(a, key) })
}

func (p *plain) merge(i int) api.Errno {
	return p.change(func(a atlas.Atlas) (atlas.Atlas, []int, api.Errno) { return atlas.Merge(a, i) })
}

func (p *plain) move(i, node int) api.Errno {
	return p.change(func(a atlas.Atlas) (atlas.Atlas, []int, api.Errno) { return atlas.Move(a, i, node, p.nodes) })
}

func (p *plain) hear(n note.Note) []note.Note {
	if !note.May(n) || n.To != 0 {
		return nil
	}
	switch n.Kind {
	case note.Where:
		return []note.Note{{Kind: note.Map, To: n.From, Atlas: p.atlas}}
	case note.Beat:
		return []note.Note{{Kind: note.Grant, To: n.From, Tick: n.Tick, Atlas: p.atlas}}
	case note.Bundle:
		for i, x := range p.gone {
			if x == shard(n.Span, n.From, n.Epoch) && p.came[i].Kind == 0 {
				p.came[i] = n
			}
		}
		if len(p.gone) > 0 && !slices.ContainsFunc(p.came, func(b note.Note) bool { return b.Kind == 0 }) {
			p.commit()
		}
	case note.Done, note.Gone:
		p.awaited = slices.DeleteFunc(p.awaited, func(w note.Note) bool {
			return answerTo[w.Kind] == n.Kind && w.To == n.From && w.Span == n.Span && w.Epoch == n.Epoch
		})
	}
	return nil
}

func (p *plain) commit() {
	for _, x := range p.next.L {
		if x.Epoch < p.next.Epoch {
			continue
		}
		w := to(note.Install, x.Node, x.Span, x.Epoch)
		for _, b := range p.came {
			for _, r := range b.L {
				if k := key(r.Text); k >= x.Span.From && (x.Span.To == "" || k < x.Span.To) {
					w.L = append(w.L, r)
				}
			}
			w.Last = once.Merge(w.Last, b.Last)
		}
		p.awaited = append(p.awaited, w)
	}
	for _, x := range p.gone {
		p.awaited = append(p.awaited, to(note.Forget, x.Node, x.Span, x.Epoch))
	}
	p.atlas, p.next, p.gone, p.came = p.next, atlas.Atlas{}, nil, nil
}

// whole is all that a seat is to tell, as a text.
func (p *plain) whole() string {
	return fmt.Sprintf("%+v %v\n%+v", p.atlas, p.busy(), p.notes())
}
