package keeper

import (
	"bytes"
	"fmt"
	"maps"
	"slices"
	"testing"

	"gazetteer/api"
	"gazetteer/atlas"
	"gazetteer/medium"
	"gazetteer/note"
	"gazetteer/once"
	"gazetteer/seat"
)

var someTexts = []string{"", "a", "b", "c", "e", "é", "e\u0301", "g\u00ad", "k", "m", "zz"}

func someSpan(roll func(int) int) api.Span {
	ends := []string{"", "c", "é", "k", ""}
	i := roll(4)
	return keys(ends[i], ends[i+1+roll(4-i)])
}

func someRecords(roll func(int) int, x api.Span) []api.Record {
	var l []api.Record
	for range roll(5) {
		text := pick(roll, someTexts)
		if in := key(text) >= x.From && (x.To == "" || key(text) < x.To); in || roll(20) == 0 {
			l = append(l, api.Record{Text: text, Val: fmt.Sprint(roll(99))})
		}
	}
	return l
}

func someAsk(roll func(int) int) api.Ask {
	a := api.Ask{Do: pick(roll, []int{1, 1, 1, 2, 3, 4}), Client: roll(4), Seq: roll(90), Text: pick(roll, someTexts), Val: fmt.Sprint(roll(99)), From: key(pick(roll, someTexts)), Limit: 1 + roll(3)}
	switch roll(30) {
	case 0:
		a.Do = roll(7)
	case 1:
		a.Text = "\xff"
	case 2:
		a.Limit = roll(20)
	case 3:
		a.Client = roll(6)
	case 4:
		a.To = key(pick(roll, someTexts))
	}
	return a
}

// someNote answers a note that is likely to be taken, by what is held and what the clock shows, or nearly so, or is another; new spans are of epochs behind a given one.
func someNote(roll func(int) int, k *Keeper, epoch int) note.Note {
	if roll(2) == 0 {
		return asks(someAsk(roll))
	}
	if roll(4) == 0 {
		return granted(max(0, k.Clock()+2-roll(6)), 1+roll(9))
	}
	n := to(pick(roll, []int{note.Freeze, note.Install, note.Install, note.Install, note.Install, note.Forget}), someSpan(roll), 1+epoch+roll(9))
	if l := k.List(); len(l) > 0 && roll(3) > 0 {
		h := pick(roll, l)
		n.Span, n.Epoch = h.Span, h.Epoch
		if h.Frozen && roll(2) == 0 {
			n.Kind = note.Forget
		}
	}
	switch roll(40) {
	case 0:
		n.Span.To += "\x00"
	case 1:
		n.Epoch--
	case 2:
		n.To = roll(3)
	case 3:
		n.Tick = 1
	case 4:
		n.Kind = roll(14)
	case 5:
		n.From = pick(roll, []int{1, 2, 3, 100})
	}
	if n.Kind == note.Install {
		n.L = someRecords(roll, n.Span)
		for range roll(3) {
			n.Last = append(n.Last, last(roll(4), roll(6)))
		}
	}
	return n
}

// TestP18_AnyRuns holds a node, and one that is opened anew from what would be left of its medium, against the promises, step by step.
func TestP18_AnyRuns(t *testing.T) {
	told, served := map[int]int{}, map[api.Errno]int{}
	for run := range 150 {
		roll := dice(uint64(run))
		length := 1 + roll(60)
		m := medium.New()
		k, p := open(t, m, length), newPlain(t, length)
		disk := medium.New() // p's own
		p.start(t, disk)
		for step := range 200 {
			was, b := p.whole(), m.Bytes()
			what := fmt.Sprintf("run %d, step %d: ", run, step)
			switch roll(12) {
			case 0:
				what += "Tick"
				want(t, what, k.Tick(), p.tick())
			case 1:
				if roll(8) > 0 {
					continue
				}
				what += "Open"
				m.Append([]byte{0, 9, 7, 1, 2, 3, 4, 5}[:roll(9)])
				m.Crash(roll(9))
				k = open(t, m, length)
				p.start(t, disk)
			default:
				n := someNote(roll, k, step/5)
				what += fmt.Sprintf("%+v", n)
				l := k.Hear(n)
				want(t, what, l, p.hear(n))
				for _, a := range l {
					told[a.Kind]++
					if a.Kind == note.Reply {
						served[a.Reply.Err]++
					}
					want(t, what+", May", note.May(a), true)
				}
			}
			want(t, what, whole(k), p.whole())
			want(t, what+", Loose", m.Loose(), 0)
			if was == p.whole() && len(k.List()) == 0 && !bytes.Equal(b, m.Bytes()) {
				t.Fatalf("%s: nothing is held, but the medium changed", what)
			}
			c := m.Copy()
			c.Crash(0)
			o := open(t, c, length)
			want(t, what+", opened anew", []any{o.List(), o.Leased(), o.Clock()}, []any{k.List(), false, 0})
			a := someAsk(roll)
			hears(t, o, note.Note{Kind: note.Ask, From: 103, To: 2, Ask: a}, []note.Note{{Kind: note.Reply, From: 2, To: 103, Reply: api.Reply{Client: a.Client, Seq: a.Seq, Err: api.ErrEpoch}}})
		}
	}
	if told[note.Bundle] < 200 || told[note.Done] < 200 || told[note.Gone] < 200 || served[api.OK] < 500 || served[api.ErrEpoch] < 500 || served[api.ErrFull] < 20 || served[api.ErrText] < 20 {
		t.Errorf("notes by kind: %v, replies by error: %v", told, served)
	}
}

func TestR5SameAgain(t *testing.T) {
	show := func() string {
		roll := dice(5)
		k := open(t, medium.New(), 9)
		out := ""
		for i := range 300 {
			if roll(4) == 0 {
				out += fmt.Sprintf("%+v", k.Tick())
			}
			out += fmt.Sprintf("%+v", k.Hear(someNote(roll, k, i/5))) + whole(k)
		}
		return out
	}
	if show() != show() {
		t.Error("it is not the same again")
	}
}

// asked names an ask.
type asked struct{ client, seq int }

// cluster is a seat, nodes, what is on its way among them and to clients, and the map that the nodes are to be together.
type cluster struct {
	t     *testing.T
	seat  *seat.Seat
	nodes []*Keeper // from 1 on; nil: it is down
	disks []*medium.Medium
	way   []note.Note
	m     map[string]api.Record // by sort keys
	done  map[asked]api.Reply   // what puts and deletes were answered
	seq   [api.MaxClients]int
	fed   []bool // has a Grant come to it since it was opened?
}

func newCluster(t *testing.T, nodes int) *cluster {
	c := &cluster{t: t, m: map[string]api.Record{}, done: map[asked]api.Reply{}, nodes: make([]*Keeper, nodes+1), fed: make([]bool, nodes+1)}
	for i := range nodes + 1 {
		c.disks = append(c.disks, medium.New())
		c.start(i)
	}
	return c
}

func (c *cluster) crash(i, keep int) {
	c.disks[i].Crash(keep)
	if i > 0 {
		c.nodes[i] = nil
	}
}

// start opens a party anew.
func (c *cluster) start(i int) {
	e := api.OK
	if i == 0 {
		c.seat, e = seat.Open(table(), c.disks[0], len(c.nodes)-1)
	} else {
		c.nodes[i], e = Open(i, table(), c.disks[i], 16, 12)
		c.fed[i] = false
	}
	want(c.t, "Open", e, api.OK)
}

// tick lets a party tick that is up.
func (c *cluster) tick(i int) {
	if i == 0 {
		c.way = append(c.way, c.seat.Tick()...)
	} else if c.nodes[i] != nil {
		c.way = append(c.way, c.nodes[i].Tick()...)
	}
}

// deliver takes the i-th note that is on its way to whom it is for; one to a node that is down, or to a client, is lost.
func (c *cluster) deliver(i int) {
	n := c.way[i]
	c.way = slices.Delete(c.way, i, i+1)
	if n.To == 0 {
		c.way = append(c.way, c.seat.Hear(n)...)
		return
	}
	if n.To >= len(c.nodes) || c.nodes[n.To] == nil {
		return
	}
	l := c.nodes[n.To].Hear(n)
	c.way = append(c.way, l...)
	c.fed[n.To] = c.fed[n.To] || n.Kind == note.Grant
	if len(l) == 1 && n.Kind == note.Ask && l[0].Reply.Err != api.ErrEpoch {
		want(c.t, "an answer of a node to which a Grant came", c.fed[n.To], true)
		c.judge(n.Ask, l[0].Reply)
	}
}

// judge holds an answer against the map, and brings the map further.
func (c *cluster) judge(a api.Ask, r api.Reply) {
	what := fmt.Sprintf("%+v", a)
	want(c.t, what, []any{r.Err, r.Client, r.Seq}, []any{api.OK, a.Client, a.Seq})
	k := key(a.Text)
	was, found := c.m[k]
	switch id := (asked{a.Client, a.Seq}); {
	case a.Do == 4:
		c.judgePage(a, r)
	case a.Do == 3:
		want(c.t, what, []any{r.Found, r.Val}, []any{found, was.Val})
	default:
		if before, ok := c.done[id]; ok {
			want(c.t, what+", told again", r, before)
			return
		}
		want(c.t, what, r.Found, found)
		c.done[id] = r
		delete(c.m, k)
		if a.Do == 1 {
			c.m[k] = api.Record{Text: a.Text, Val: a.Val}
		}
	}
}

// judgePage holds a page against the map: it has just the records from a's From on to where it ends.
func (c *cluster) judgePage(a api.Ask, r api.Reply) {
	var l []api.Record
	for _, k := range slices.Sorted(maps.Keys(c.m)) {
		if k >= a.From && (r.Next == "" || k < r.Next) {
			l = append(l, c.m[k])
		}
	}
	want(c.t, fmt.Sprintf("%+v, till %x", a, r.Next), r.L, l)
}

// ask sends what a client asks to some nodes, at whatever time it comes to them.
func (c *cluster) ask(roll func(int) int) {
	client := roll(api.MaxClients)
	c.seq[client]++
	a := api.Ask{Do: pick(roll, []int{1, 1, 1, 2, 3, 4}), Client: client, Seq: c.seq[client], Limit: 1 + roll(9)}
	if a.Do == 4 {
		a.From = key(pick(roll, someTexts))
	} else {
		a.Text, a.Val = pick(roll, someTexts), fmt.Sprint(client, a.Seq)
	}
	for range 1 + roll(4) {
		c.way = append(c.way, note.Note{Kind: note.Ask, From: 100 + client, To: 1 + roll(len(c.nodes)-1), Ask: a})
	}
}

// owned tells where a key is held, not Frozen, by two nodes that are up.
func (c *cluster) owned() {
	for _, text := range someTexts {
		k, many := key(text), 0
		for _, s := range c.nodes[1:] {
			for _, h := range s.List() {
				if !h.Frozen && k >= h.Span.From && (h.Span.To == "" || k < h.Span.To) {
					many++
				}
			}
		}
		if many > 1 {
			c.t.Fatalf("%q has %d owners", text, many)
		}
	}
}

// settle delivers everything for some rounds, and tells what there is then.
func (c *cluster) settle() {
	for i := range c.nodes {
		if i > 0 && c.nodes[i] == nil {
			c.start(i)
		}
	}
	for range 6 {
		for i := range c.nodes {
			c.tick(i)
		}
		for len(c.way) > 0 {
			c.deliver(0)
		}
	}
	want(c.t, "Busy at the end", c.seat.Busy(), false)
	held := make([][]atlas.Shard, len(c.nodes))
	for _, x := range c.seat.Atlas().L {
		held[x.Node] = append(held[x.Node], x)
	}
	for i, s := range c.nodes[1:] {
		var l []atlas.Shard
		for _, h := range s.List() {
			want(c.t, "Frozen", h.Frozen, false)
			l = append(l, atlas.Shard{Span: h.Span, Node: i + 1, Epoch: h.Epoch})
		}
		want(c.t, "what a node holds", l, held[i+1])
		want(c.t, "Leased", s.Leased(), true)
	}
	for _, text := range someTexts {
		x, _ := atlas.Owner(c.seat.Atlas(), key(text))
		was, found := c.m[key(text)]
		a := aGet(0, 1<<20, text)
		l := c.nodes[x.Node].Hear(note.Note{Kind: note.Ask, From: 100, To: x.Node, Ask: a})
		want(c.t, "a get at the end", l, []note.Note{{Kind: note.Reply, From: x.Node, To: 100, Reply: api.Reply{Seq: 1 << 20, Found: found, Val: was.Val}}})
	}
}

// TestT1T2T3T4T5AnyRunsOfNodes lets any things happen to notes and parties: no key has two owners, nodes are one map, those that were opened anew too, pages tell just what there is, and in the end changes come to theirs.
func TestT1T2T3T4T5AnyRunsOfNodes(t *testing.T) {
	changes, answered := 0, 0
	for run := range 80 {
		roll := dice(uint64(3000 + run))
		c := newCluster(t, 1+roll(5))
		for range 2000 {
			switch roll(40) {
			case 0:
				c.seat.Split(key(pick(roll, someTexts)))
			case 1:
				c.seat.Merge(roll(6))
			case 2:
				c.seat.Move(roll(6), 1+roll(5))
			case 3:
				if i := roll(len(c.nodes)); i == 0 || c.nodes[i] == nil {
					c.start(i)
				} else if roll(4) == 0 {
					c.crash(i, roll(9))
				}
			case 4, 5:
				c.tick(0)
			case 6, 7, 8:
				c.tick(roll(len(c.nodes)))
			case 9, 10, 11:
				c.ask(roll)
			default:
				if len(c.way) == 0 {
					continue
				}
				i := min(roll(len(c.way)), roll(len(c.way)))
				switch {
				case roll(20) == 0 || len(c.way) > 40:
					c.way = slices.Delete(c.way, i, i+1)
				case roll(20) == 0:
					c.way = append(c.way, c.way[i])
				default:
					c.deliver(i)
				}
			}
			c.owned()
		}
		changes += c.seat.Atlas().Epoch
		answered += len(c.done)
		c.settle()
	}
	if changes < 300 || answered < 1000 {
		t.Errorf("%d changes, %d puts and deletes", changes, answered)
	}
}

// TestP18_2LastAnswersGoWithASpan: what was done by one node is answered again, and not done again, by the next one.
func TestP18_2LastAnswersGoWithASpan(t *testing.T) {
	c := newCluster(t, 2)
	rounds := func() {
		for range 4 {
			for i := range c.nodes {
				c.tick(i)
			}
			for len(c.way) > 0 {
				c.deliver(0)
			}
		}
	}
	put := func(node int) []note.Note {
		return c.nodes[node].Hear(note.Note{Kind: note.Ask, From: 101, To: node, Ask: aPut(1, 3, "a", "x")})
	}
	reply := func(node int, e api.Errno) []note.Note {
		return []note.Note{{Kind: note.Reply, From: node, To: 101, Reply: api.Reply{Client: 1, Seq: 3, Err: e}}}
	}
	want(t, "without a lease", put(1), reply(1, api.ErrEpoch))
	rounds()
	want(t, "not its own", put(2), reply(2, api.ErrEpoch))
	want(t, "done", put(1), reply(1, api.OK))
	for i := range 3 {
		want(t, "Move", c.seat.Move(0, 2-i%2), api.OK)
		rounds()
		want(t, "told to who had it", put(1+i%2), reply(1+i%2, api.ErrEpoch))
		want(t, "told to who has it", put(2-i%2), reply(2-i%2, api.OK))
	}
	c.crash(2, 0)
	c.start(2)
	want(t, "opened anew", put(2), reply(2, api.ErrEpoch))
	rounds()
	want(t, "and told again", put(2), reply(2, api.OK))
	x := c.nodes[2].Hear(note.Note{Kind: note.Freeze, To: 2, Epoch: 4})[0]
	want(t, "what it has", []any{x.L, x.Last}, []any{[]api.Record{{Text: "a", Val: "x"}}, []once.Last{{Seq: 3, Reply: api.Reply{Client: 1, Seq: 3}}}})
}
