package caller

import (
	"fmt"
	"reflect"
	"slices"
	"testing"

	"gazetteer/api"
	"gazetteer/atlas"
	"gazetteer/note"
	"gazetteer/once"
	"gazetteer/sortkey"
)

// dice answers numbers that look like any, the same each time.
func dice(state uint64) func(most int) int {
	return func(most int) int {
		state = state*6364136223846793005 + 1442695040888963407
		return int(state>>33) % most
	}
}

func pick[T any](roll func(int) int, l []T) T { return l[roll(len(l))] }

// table has é taken apart, letters from a to z, U+00AD that weighs nothing, and U+00E6 that has twelve weights.
func table() api.Table {
	t := api.Table{
		Lore: []api.Lore{{R: 0xe9, To: []rune{'e', 0x301}}, {R: 0x301, Class: 230}},
		Rows: []api.Row{{Of: []rune{0xad}}, {Of: []rune{0xe6}}, {Of: []rune{0x301}, To: []api.Element{{S: 3, T: 2}}}},
	}
	for range 4 {
		t.Rows[1].To = append(t.Rows[1].To, api.Element{P: 10, S: 2, T: 2})
	}
	for i := range 26 {
		row := api.Row{Of: []rune{rune('a' + i)}, To: []api.Element{{P: 10 + i, S: 2, T: 2}}}
		t.Rows = slices.Insert(t.Rows, i, row)
	}
	return t
}

// badTable is one that may not be.
func badTable() api.Table {
	t := table()
	t.Top = -1
	return t
}

// made are the keys of texts that were asked for, as runs ask for the same ones again and again.
var made = map[string]string{}

func key(text string) string {
	if k, ok := made[text]; ok {
		return k
	}
	k, e := sortkey.Make(table(), text)
	if e != api.OK {
		panic("no key: " + text)
	}
	made[text] = k
	return k
}

// at answers an atlas of that epoch, whose shards are cut at these keys: the first is node 1's, the next one node 2's, and on, from node 6 on again from node 1.
func at(epoch int, cuts ...string) atlas.Atlas {
	a, from := atlas.Atlas{Epoch: epoch}, ""
	for i, to := range append(slices.Clone(cuts), "") {
		a.L = append(a.L, atlas.Shard{Span: api.Span{From: from, To: to}, Node: 1 + i%5, Epoch: epoch})
		from = to
	}
	return a
}

// only answers an atlas of that epoch, in which node has all keys.
func only(node, epoch int) atlas.Atlas {
	return atlas.Atlas{Epoch: epoch, L: []atlas.Shard{{Node: node, Epoch: 1}}}
}

// What client 1 asks; Client and Seq are the caller's to set.

func aPut(text, val string) api.Ask { return api.Ask{Do: 1, Text: text, Val: val} }

func aDelete(text string) api.Ask { return api.Ask{Do: 2, Text: text} }

func aGet(text string) api.Ask { return api.Ask{Do: 3, Text: text} }

func aPage(from, to string, limit int) api.Ask {
	return api.Ask{Do: 4, From: from, To: to, Limit: limit}
}

// What client 1 sends: an ask as its seq-th to a node, a Where.

func sent(node, seq int, a api.Ask) []note.Note {
	a.Client, a.Seq = 1, seq
	return []note.Note{{Kind: note.Ask, From: 101, To: node, Ask: a}}
}

func where() []note.Note { return []note.Note{{Kind: note.Where, From: 101}} }

var silent []note.Note

// What client 1 is sent: an atlas, a reply, one that sends it elsewhere.

func mapped(a atlas.Atlas) note.Note { return note.Note{Kind: note.Map, To: 101, Atlas: a} }

func replied(r api.Reply) note.Note {
	return note.Note{Kind: note.Reply, From: 2, To: 101, Reply: r}
}

func done(seq int) api.Reply {
	return api.Reply{Client: 1, Seq: seq, Found: true, Val: fmt.Sprint(seq)}
}

func failed(seq int, e api.Errno) api.Reply { return api.Reply{Client: 1, Seq: seq, Err: e} }

func elsewhere(seq int) note.Note { return replied(failed(seq, api.ErrEpoch)) }

// full is a note that has something in each field that its kind has.
func full(kind int) note.Note {
	n := note.Note{Kind: kind, From: 3, To: 101}
	switch kind {
	case note.Ask:
		n.Ask = api.Ask{Do: 1, Client: 1, Seq: 1, Text: "a"}
	case note.Reply:
		n.Reply = done(1)
	case note.Beat:
		n.Tick = 4
	case note.Map:
		n.Atlas = only(4, 9)
	case note.Grant:
		n.Tick, n.Atlas = 4, only(4, 9)
	case note.Freeze, note.Done, note.Forget, note.Gone:
		n.Epoch = 9
	case note.Bundle, note.Install:
		n.Epoch, n.L, n.Last = 9, recs("a"), []once.Last{{Seq: 1, Reply: done(1)}}
	}
	return n
}

func recs(l ...string) []api.Record {
	var out []api.Record
	for _, text := range l {
		out = append(out, api.Record{Text: text, Val: "v" + text})
	}
	return out
}

func want(t *testing.T, what string, got, want any) {
	t.Helper()
	if !reflect.DeepEqual(got, want) {
		t.Fatalf("%s:\n%+v, want\n%+v", what, got, want)
	}
}

// begin answers client 1's caller, who asks again each every-th tick.
func begin(t *testing.T, every, tries int) *Caller {
	t.Helper()
	c, e := New(1, table(), every, tries)
	if c == nil || e != api.OK {
		t.Fatalf("New: %v, %v", c, e)
	}
	return c
}

// told answers client 1's caller, who knows an atlas.
func told(t *testing.T, a atlas.Atlas) *Caller {
	t.Helper()
	c := begin(t, 3, 4)
	hears(t, c, mapped(a), silent)
	return c
}

// asks has c take an ask, and holds what it sends against what it is to send.
func asks(t *testing.T, c *Caller, a api.Ask, l []note.Note) {
	t.Helper()
	was := len(c.Answers())
	got, e := c.Ask(a)
	want(t, fmt.Sprintf("%+v", a), []any{got, e, c.Open(), len(c.Answers())}, []any{l, api.OK, true, was})
	for _, n := range got {
		want(t, "May", note.May(n), true)
	}
}

// refuses has c refuse an ask, by which nothing changes.
func refuses(t *testing.T, c *Caller, a api.Ask, e api.Errno) {
	t.Helper()
	was := whole(c)
	l, got := c.Ask(a)
	want(t, fmt.Sprintf("%+v", a), []any{l, got, whole(c)}, []any{silent, e, was})
}

// hears holds what c answers to a note against what it is to answer.
func hears(t *testing.T, c *Caller, n note.Note, l []note.Note) {
	t.Helper()
	want(t, fmt.Sprintf("%+v", n), c.Hear(n), l)
}

// ticks lets c tick, so many times, and holds what it answers at the last of these, and that it answers nothing at the others.
func ticks(t *testing.T, c *Caller, many int, l []note.Note) {
	t.Helper()
	for i := 1; i < many; i++ {
		want(t, fmt.Sprint("Tick ", i, " of ", many), c.Tick(), silent)
	}
	want(t, "Tick", c.Tick(), l)
}

// whole is all that a caller tells without being changed, as a text.
func whole(c *Caller) string { return fmt.Sprintf("open %v, %+v", c.Open(), c.Answers()) }

// plain is client 1's caller as the promises tell of it, by ticks since the beginning.
type plain struct {
	every, tries int
	clock        int
	atlas        atlas.Atlas
	ask          api.Ask // the last one
	asked        int     // when
	open, waits  bool
	where        int // the tick of the last Where that followed an ErrEpoch
	answers      []api.Reply
	taken        int
}

func newPlain(every, tries int) *plain { return &plain{every: every, tries: tries, where: -1} }

func (p *plain) keyOf(a api.Ask) string {
	if a.Do == 4 {
		return a.From
	}
	return key(a.Text)
}

func (p *plain) send() []note.Note {
	for _, x := range p.atlas.L {
		if k := p.keyOf(p.ask); k >= x.Span.From && (x.Span.To == "" || k < x.Span.To) {
			return []note.Note{{Kind: note.Ask, From: 101, To: x.Node, Ask: p.ask}}
		}
	}
	return where()
}

// refusal is the error of an ask that may not be.
func (p *plain) refusal(a api.Ask) api.Errno {
	if p.open {
		return api.ErrBusy
	}
	if a.Do < 1 || a.Do > 4 || a.Do == 4 && (a.Limit < 1 || a.Limit > 16) {
		return api.ErrArg
	}
	if a.Do == 4 {
		if len(a.From) > 640 || len(a.To) > 640 {
			return api.ErrLong
		}
		return api.OK
	}
	if _, e := sortkey.Make(table(), a.Text); e != api.OK {
		return e
	}
	if a.Do == 1 && len(a.Val) > 64 {
		return api.ErrLong
	}
	return api.OK
}

func (p *plain) take(a api.Ask) ([]note.Note, api.Errno) {
	if e := p.refusal(a); e != api.OK {
		return nil, e
	}
	p.taken++
	a.Client, a.Seq = 1, p.taken
	if a.Do != 4 {
		a.Limit = 0
	}
	p.ask, p.asked, p.open, p.waits = a, p.clock, true, len(p.atlas.L) == 0
	return p.send(), api.OK
}

func (p *plain) hear(n note.Note) []note.Note {
	if !note.May(n) || n.To != 101 {
		return nil
	}
	if n.Kind == note.Map && n.Atlas.Epoch > p.atlas.Epoch {
		p.atlas = n.Atlas
		if p.open && p.waits {
			p.waits = false
			return p.send()
		}
	}
	if n.Kind == note.Reply && p.open && n.Reply.Client == 1 && n.Reply.Seq == p.ask.Seq {
		if n.Reply.Err != api.ErrEpoch {
			p.answers, p.open = append(p.answers, n.Reply), false
			return nil
		}
		p.waits = true
		if p.where < p.clock {
			p.where = p.clock
			return where()
		}
	}
	return nil
}

func (p *plain) tick() []note.Note {
	p.clock++
	since := p.clock - p.asked
	if !p.open || since%p.every != 0 {
		return nil
	}
	if since == p.tries*p.every {
		p.answers, p.open = append(p.answers, failed(p.ask.Seq, api.ErrTimeout)), false
		return nil
	}
	return p.send()
}

// whole is all that a caller is to tell, as a text.
func (p *plain) whole() string { return fmt.Sprintf("open %v, %+v", p.open, p.answers) }
