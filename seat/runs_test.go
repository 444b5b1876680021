package seat

import (
	"bytes"
	"fmt"
	"maps"
	"reflect"
	"slices"
	"testing"

	"gazetteer/api"
	"gazetteer/atlas"
	"gazetteer/medium"
	"gazetteer/note"
	"gazetteer/once"
	"gazetteer/store"
)

var someTexts = []string{"", "a", "b", "c", "d", "e", "é", "e\u0301", "f", "g\u00ad", "k", "m", "zz"}

func someKey(roll func(int) int) string {
	if roll(20) == 0 {
		return ""
	}
	return key(pick(roll, someTexts))
}

func someRecords(roll func(int) int) []api.Record {
	var l []api.Record
	for range roll(6) {
		l = append(l, api.Record{Text: pick(roll, someTexts), Val: fmt.Sprint(roll(99))})
	}
	return l
}

func someLast(roll func(int) int) []once.Last {
	var l []once.Last
	for range roll(4) {
		l = append(l, last(roll(4), roll(9)))
	}
	return l
}

// someNote answers a note that may be awaited, or nearly so, or is another.
func someNote(roll func(int) int, awaited []note.Note) note.Note {
	n := note.Note{Kind: 1 + roll(13), From: pick(roll, []int{0, 1, 2, 3, 100, 103}), Tick: roll(3), Epoch: roll(9)}
	if len(awaited) > 0 && roll(8) > 0 {
		w := pick(roll, awaited)
		n = by(answerTo[w.Kind], w.To, w.Span, w.Epoch)
	}
	switch roll(12) {
	case 0:
		n.From = roll(6)
	case 1:
		n.Epoch += roll(3) - 1
	case 2:
		n.Span.To = someKey(roll)
	case 3:
		n.Kind = 1 + roll(12)
	case 4:
		n.To = roll(2)
	}
	if n.Kind == note.Bundle {
		n.L, n.Last = someRecords(roll), someLast(roll)
	}
	if n.Kind == note.Where || n.Kind == note.Beat {
		n.Epoch, n.Span = 0, api.Span{}
	}
	if n.Kind != note.Beat {
		n.Tick = 0
	}
	return n
}

// TestP17_AnyRuns holds a seat, and one that is opened anew from what would be left of its medium, against the promises, step by step.
func TestP17_AnyRuns(t *testing.T) {
	committed, refused := 0, map[api.Errno]int{}
	for run := range 60 {
		roll := dice(uint64(run))
		nodes := 1 + roll(4)
		m := medium.New()
		s, p := open(t, m, nodes), newPlain(nodes)
		for step := range 150 {
			was, told := p.whole(), m.Bytes()
			what := ""
			switch roll(10) {
			case 0:
				k := someKey(roll)
				what = fmt.Sprintf("Split %q", k)
				e := s.Split(k)
				refused[e]++
				want(t, what, e, p.split(k))
			case 1:
				i := roll(8) - 1
				what = fmt.Sprint("Merge ", i)
				e := s.Merge(i)
				refused[e]++
				want(t, what, e, p.merge(i))
			case 2:
				i, node := roll(8)-1, roll(6)
				what = fmt.Sprint("Move ", i, node)
				e := s.Move(i, node)
				refused[e]++
				want(t, what, e, p.move(i, node))
			case 3:
				what = "Open"
				m.Crash(0)
				s = open(t, m, nodes)
			default:
				n := someNote(roll, p.notes())
				what = fmt.Sprintf("%+v", n)
				before := p.atlas.Epoch
				want(t, what, s.Hear(n), p.hear(n))
				committed += p.atlas.Epoch - before
			}
			what = fmt.Sprintf("run %d, step %d: %s", run, step, what)
			want(t, what, whole(s), p.whole())
			want(t, what+", Loose", m.Loose(), 0)
			if was == p.whole() && !bytes.Equal(told, m.Bytes()) {
				t.Fatalf("%s: nothing changed, but the medium did", what)
			}
			n := m.Copy()
			n.Append([]byte{0, 9, 7, 1, 2, 3, 4, 5}[:roll(9)])
			n.Crash(roll(9))
			want(t, what+", opened anew", whole(open(t, n, nodes)), p.whole())
		}
	}
	if committed < 300 || len(refused) != 3 {
		t.Errorf("%d changes are committed; errors: %v", committed, refused)
	}
}

// TestP17_3EachPlaceToTear crashes a seat's medium at each byte that a step writes: the seat is then as it was ahead of the step, or behind it.
func TestP17_3EachPlaceToTear(t *testing.T) {
	m := medium.New()
	s := open(t, m, 3)
	steps := []func(){
		func() { tell(t, s, by(note.Done, 1, all(), 1)) },
		func() { s.Split(key("e")) },
		func() { tell(t, s, bundle(1, all(), 1, recs("a", "é"), last(1, 3))) },
		func() { tell(t, s, by(note.Gone, 1, all(), 1)) },
		func() { tell(t, s, by(note.Done, 1, keys("", "e"), 2)) },
		func() { tell(t, s, by(note.Done, 1, keys("e", ""), 2)) },
		func() { s.Merge(0) },
		func() {
			x := last(2, 2)
			x.Reply.Val = string(make([]byte, 20000)) // more than one piece
			tell(t, s, bundle(1, keys("", "e"), 2, recs("b"), x))
		},
		func() { tell(t, s, bundle(1, keys("e", ""), 2, nil, last(2, 1))) },
	}
	for i, step := range steps {
		before, was := m.Bytes(), whole(s)
		step()
		after, now := m.Bytes(), whole(s)
		if was == now {
			t.Fatalf("step %d changes nothing", i)
		}
		if !bytes.HasPrefix(after, before) {
			continue // all at once
		}
		for n := len(before); n <= len(after); n++ {
			if len(after) > 5000 && n%97 > 0 && n < len(after)-9 {
				continue
			}
			torn := lying(string(after[:n]))
			got := whole(open(t, torn, 3))
			if n < len(after) && got != was || n == len(after) && got != now {
				t.Fatalf("step %d, %d bytes of %d: %s", i, n-len(before), len(after)-len(before), got)
			}
			if !bytes.Equal(torn.Bytes(), before) && n < len(after) || torn.Loose() != 0 {
				t.Fatalf("step %d, %d bytes: the torn ones are not cut off", i, n)
			}
			loose := medium.New()
			loose.Swap(before)
			loose.Append(after[len(before):])
			loose.Crash(n - len(before))
			want(t, "crashed", whole(open(t, loose, 3)), got)
		}
	}
}

// TestP17_1EachByteChanged: a seat's bytes of which one is another are no seat's, or torn ones.
func TestP17_1EachByteChanged(t *testing.T) {
	m := medium.New()
	s := open(t, m, 3)
	tell(t, s, by(note.Done, 1, all(), 1))
	s.Split(key("e"))
	tell(t, s, bundle(1, all(), 1, recs("a"), last(1, 3)), by(note.Gone, 1, all(), 1))
	b := m.Bytes()
	was := []string{whole(s)}
	for n := range b {
		if x, e := Open(table(), lying(string(b[:n])), 3); e == api.OK {
			was = append(was, whole(x))
		}
	}
	opened := 0
	for at := range b {
		for _, x := range []byte{1, 0x20, 0xff} {
			c := bytes.Clone(b)
			c[at] ^= x
			m := lying(string(c))
			s, e := Open(table(), m, 3)
			switch {
			case e == api.OK && slices.Contains(was, whole(s)):
				opened++
			case e != api.ErrForm || s != nil || !bytes.Equal(m.Bytes(), c):
				t.Fatalf("byte %d changed: %v", at, e)
			}
		}
	}
	if opened > 20 {
		t.Errorf("%d of %d open all the same", opened, 3*len(b))
	}
	for _, c := range [][]byte{append(bytes.Clone(b), make([]byte, 20)...), append(bytes.Clone(b), 0xff, 0xff, 7, 0, 0, 0, 0), append([]byte{0}, b...)} {
		if _, e := Open(table(), lying(string(c)), 3); e != api.ErrForm {
			t.Errorf("bytes that no crash leaves: %v", e)
		}
	}
}

// TestT1NoEpochIsGivenTwice lets a seat go on through crashes, and holds all that it tells of an epoch against each other.
func TestT1NoEpochIsGivenTwice(t *testing.T) {
	for run := range 30 {
		roll := dice(uint64(1000 + run))
		m := medium.New()
		s := open(t, m, 3)
		given := map[int]string{}
		for range 300 {
			a := s.Atlas()
			now := fmt.Sprint(a)
			if had, ok := given[a.Epoch]; ok && had != now {
				t.Fatalf("epoch %d is given twice: %s, %s", a.Epoch, had, now)
			}
			given[a.Epoch] = now
			for _, n := range s.Tick() {
				if n.Kind == note.Install && !slices.Contains(a.L, shard(n.Span, n.To, n.Epoch)) {
					t.Fatalf("%+v is to be installed, of %s", n, now)
				}
			}
			if !atlas.May(a, 3) || a.Epoch < len(given) {
				t.Fatalf("%s, behind %d others", now, len(given))
			}
			switch roll(6) {
			case 0:
				s.Split(someKey(roll))
			case 1:
				s.Merge(roll(4))
			case 2:
				s.Move(roll(4), 1+roll(3))
			case 3:
				m.Append([]byte{0, 9, 7}[:roll(4)])
				m.Crash(roll(4))
				s = open(t, m, 3)
			default:
				if l := s.Tick(); len(l) > 0 {
					w := pick(roll, l)
					tell(t, s, by(answerTo[w.Kind], w.To, w.Span, w.Epoch))
				}
			}
		}
		if len(given) < 10 {
			t.Errorf("%d epochs", len(given))
		}
	}
}

// cluster is a seat and nodes that are stores, what is on its way between them, and the map that they are to be.
type cluster struct {
	t      *testing.T
	seat   *Seat
	disk   *medium.Medium
	nodes  []*store.Store // from 1 on
	disks  []*medium.Medium
	way    []note.Note
	m      map[string]string // by sort keys
	seq    int
	solved int
}

func newCluster(t *testing.T, nodes int) *cluster {
	c := &cluster{t: t, disk: medium.New(), m: map[string]string{}}
	c.seat = open(t, c.disk, nodes)
	for range nodes + 1 {
		c.disks, c.nodes = append(c.disks, medium.New()), append(c.nodes, nil)
	}
	for i := 1; i <= nodes; i++ {
		c.start(i)
	}
	return c
}

// start opens a party anew behind a crash.
func (c *cluster) start(i int) {
	if i == 0 {
		c.disk.Crash(0)
		c.seat = open(c.t, c.disk, len(c.nodes)-1)
		return
	}
	c.disks[i].Crash(0)
	s, e := store.Open(table(), c.disks[i], 16)
	want(c.t, "a node's Open", e, api.OK)
	c.nodes[i] = s
}

// deliver takes the i-th note that is on its way to whom it is for, and sends the answers.
func (c *cluster) deliver(i int) {
	n := c.way[i]
	c.way = slices.Delete(c.way, i, i+1)
	if n.To == 0 {
		c.way = append(c.way, c.seat.Hear(n)...)
		return
	}
	a, s := by(answerTo[n.Kind], n.To, n.Span, n.Epoch), c.nodes[n.To]
	e := api.OK
	switch n.Kind {
	case note.Freeze:
		a.L, a.Last, e = s.Freeze(n.Span, n.Epoch)
	case note.Install:
		e = s.Hold(n.Span, n.Epoch, n.L, n.Last)
	case note.Forget:
		if e = s.Drop(n.Span, n.Epoch); e == api.ErrNone {
			e = api.OK
		}
	}
	if e == api.OK {
		c.way = append(c.way, a)
	}
}

// ask has any node do something with a text, and holds it against the map.
func (c *cluster) ask(roll func(int) int) {
	text := pick(roll, someTexts)
	k := key(text)
	was, found := c.m[k]
	c.seq++
	a := api.Ask{Do: 1 + roll(3), Client: c.seq % 4, Seq: c.seq / 4, Text: text, Val: fmt.Sprint(c.seq)}
	r, ok := c.nodes[1+roll(len(c.nodes)-1)].Do(a)
	if !ok {
		return
	}
	c.solved++
	want(c.t, fmt.Sprintf("%+v", a), []any{r.Err, r.Found}, []any{api.OK, found})
	switch a.Do {
	case 1:
		c.m[k] = a.Val
	case 2:
		delete(c.m, k)
	case 3:
		want(c.t, "a get", r.Val, was)
	}
}

// owned tells where a key is held, not Frozen, by two nodes.
func (c *cluster) owned() {
	for _, text := range someTexts {
		k, many := key(text), 0
		for _, s := range c.nodes[1:] {
			for _, h := range s.List() {
				if !h.Frozen && k >= h.Span.From && (h.Span.To == "" || k < h.Span.To) {
					many++
				}
			}
		}
		if many > 1 {
			c.t.Fatalf("%q has %d owners", text, many)
		}
	}
}

// settle delivers everything for some rounds, and tells what there is then.
func (c *cluster) settle() {
	for range 6 {
		c.way = append(c.way, c.seat.Tick()...)
		for len(c.way) > 0 {
			c.deliver(0)
		}
	}
	want(c.t, "Busy at the end", c.seat.Busy(), false)
	var spans []string
	records := map[string]string{}
	for i, s := range c.nodes[1:] {
		for _, h := range s.List() {
			spans = append(spans, fmt.Sprintf("%q %d %d %v", h.Span.From, i+1, h.Epoch, h.Frozen))
			l, _, _ := s.Freeze(h.Span, h.Epoch)
			for _, r := range l {
				records[key(r.Text)] = r.Val
			}
		}
	}
	var shards []string
	for _, x := range c.seat.Atlas().L {
		shards = append(shards, fmt.Sprintf("%q %d %d %v", x.Span.From, x.Node, x.Epoch, false))
	}
	slices.Sort(spans)
	slices.Sort(shards)
	want(c.t, "what nodes hold", spans, shards)
	if !maps.Equal(records, c.m) {
		c.t.Fatalf("records:\n%v, want\n%v", records, c.m)
	}
}

// TestT1T2T5AnyRunsOfNodes lets any things happen to notes and parties: no key has two owners, nodes are one map, and in the end changes come to theirs.
func TestT1T2T5AnyRunsOfNodes(t *testing.T) {
	changes, solved := 0, 0
	for run := range 60 {
		roll := dice(uint64(2000 + run))
		c := newCluster(t, 1+roll(5))
		for range 600 {
			switch roll(14) {
			case 0:
				c.seat.Split(someKey(roll))
			case 1:
				c.seat.Merge(roll(6))
			case 2:
				c.seat.Move(roll(6), 1+roll(5))
			case 3:
				c.start(roll(len(c.nodes)))
			case 4, 5:
				c.way = append(c.way, c.seat.Tick()...)
			case 6:
				c.ask(roll)
				c.ask(roll)
			default:
				if len(c.way) == 0 {
					continue
				}
				i := roll(len(c.way))
				switch {
				case roll(10) == 0 || len(c.way) > 60:
					c.way = slices.Delete(c.way, i, i+1)
				case roll(10) == 0:
					c.way = append(c.way, c.way[i])
				default:
					c.deliver(i)
				}
			}
			c.owned()
		}
		changes += c.seat.Atlas().Epoch
		solved += c.solved
		c.settle()
	}
	if changes < 300 || solved < 1000 {
		t.Errorf("%d changes, %d asks", changes, solved)
	}
}

func TestR5SameAgain(t *testing.T) {
	show := func() string {
		roll := dice(5)
		s := open(t, medium.New(), 3)
		out := ""
		for range 200 {
			s.Split(someKey(roll))
			s.Move(roll(3), 1+roll(3))
			for _, n := range s.Tick() {
				s.Hear(bundle(n.To, n.Span, n.Epoch, someRecords(roll), someLast(roll)...))
				s.Hear(by(answerTo[n.Kind], n.To, n.Span, n.Epoch))
			}
			out += whole(s)
		}
		return out
	}
	if !reflect.DeepEqual(show(), show()) {
		t.Error("it is not the same again")
	}
}
