package caller

import (
	"fmt"
	"maps"
	"slices"
	"strings"
	"testing"

	"gazetteer/api"
	"gazetteer/atlas"
	"gazetteer/keeper"
	"gazetteer/medium"
	"gazetteer/note"
	"gazetteer/seat"
)

var someTexts = []string{"", "a", "b", "c", "e", "é", "e\u0301", "g\u00ad", "k", "m", "zz"}

func someKey(roll func(int) int) string { return key(pick(roll, someTexts)) }

// someAsk answers an ask that is likely to be taken, or nearly so.
func someAsk(roll func(int) int) api.Ask {
	a := api.Ask{Do: 1 + roll(4), Client: roll(6) - 1, Seq: roll(9) - 1, Text: pick(roll, someTexts), Val: fmt.Sprint(roll(99)), From: someKey(roll), Limit: 1 + roll(16)}
	switch roll(12) {
	case 0:
		a.Do = roll(7) - 1
	case 1:
		a.Text = pick(roll, []string{"\xff", strings.Repeat("a", 64), strings.Repeat("a", 65), strings.Repeat("\u00e6", 27)})
	case 2:
		a.Limit = roll(22) - 2
	case 3:
		a.Val = strings.Repeat("x", 64+roll(2))
	case 4:
		a.From = strings.Repeat("\x00", 640+roll(2))
	case 5:
		a.To = strings.Repeat("\x00", 640+roll(2))
	case 6:
		a.To = someKey(roll)
	}
	return a
}

func someAtlas(roll func(int) int, epoch int) atlas.Atlas {
	var cuts []string
	for range roll(4) {
		if k := someKey(roll); !slices.Contains(cuts, k) {
			cuts = append(cuts, k)
		}
	}
	slices.Sort(cuts)
	a := at(epoch, cuts...)
	for i := range a.L {
		a.L[i].Node = 1 + roll(5)
	}
	return a
}

// someNote answers a note that is likely to count, by what was taken and what is known, or nearly so, or is another.
func someNote(roll func(int) int, p *plain) note.Note {
	if roll(12) == 0 {
		return full(roll(14))
	}
	n := mapped(someAtlas(roll, max(1, p.atlas.Epoch+3-roll(6))))
	if roll(2) == 0 {
		n = replied(api.Reply{Client: 1, Seq: p.taken, Found: roll(2) == 0, Val: fmt.Sprint(roll(99)), L: recs("a", "b")[roll(3):]})
		n.Reply.Err = pick(roll, []api.Errno{api.OK, api.ErrEpoch, api.ErrEpoch, api.ErrEpoch, api.ErrFull})
		if len(n.Reply.L) == 0 {
			n.Reply.L = nil
		}
	}
	switch roll(20) {
	case 0:
		n.To = roll(103)
	case 1:
		n.Epoch++
	case 2:
		n.From = pick(roll, []int{0, 1, 100, 101, 104})
	case 3:
		n.Kind = 1 + roll(12)
	}
	if n.Kind == note.Reply {
		switch roll(12) {
		case 0:
			n.Reply.Seq = max(0, p.taken+roll(5)-2)
		case 1:
			n.Reply.Client = roll(4)
		}
	}
	return n
}

// TestP19_AnyRuns holds a caller against the promises, step by step.
func TestP19_AnyRuns(t *testing.T) {
	sent, answered, refused := map[int]int{}, map[api.Errno]int{}, map[api.Errno]int{}
	for run := range 400 {
		roll := dice(uint64(run))
		every, tries := 1+roll(5), 1+roll(5)
		c, p := begin(t, every, tries), newPlain(every, tries)
		for step := range 300 {
			what := fmt.Sprintf("run %d, step %d: ", run, step)
			var l []note.Note
			switch roll(8) {
			case 0, 1:
				what += "Tick"
				l = c.Tick()
				want(t, what, l, p.tick())
			case 2, 3:
				a := someAsk(roll)
				what += fmt.Sprintf("%+v", a)
				got, e := c.Ask(a)
				wanted, f := p.take(a)
				want(t, what, []any{got, e}, []any{wanted, f})
				refused[e]++
				l = got
			default:
				n := someNote(roll, p)
				what += fmt.Sprintf("%+v", n)
				l = c.Hear(n)
				want(t, what, l, p.hear(n))
			}
			want(t, what, whole(c), p.whole())
			for _, n := range l {
				want(t, what+", May", note.May(n), true)
				sent[n.Kind]++
			}
		}
		for _, r := range c.Answers() {
			answered[r.Err]++
		}
	}
	if sent[note.Ask] < 5000 || sent[note.Where] < 3000 || answered[api.OK] < 2000 || answered[api.ErrFull] < 2000 || answered[api.ErrTimeout] < 2000 || answered[api.ErrEpoch] > 0 {
		t.Errorf("notes by kind: %v, answers by error: %v", sent, answered)
	}
	for _, e := range []api.Errno{api.OK, api.ErrBusy, api.ErrArg, api.ErrText, api.ErrLong} {
		if refused[e] < 100 {
			t.Errorf("asks by error: %v", refused)
		}
	}
}

func TestR5SameAgain(t *testing.T) {
	show := func() string {
		roll := dice(5)
		c, p := begin(t, 2, 3), newPlain(2, 3)
		out := ""
		for range 300 {
			a, n := someAsk(roll), someNote(roll, p)
			p.take(a)
			p.hear(n)
			l, e := c.Ask(a)
			out += fmt.Sprintf("%+v %v %+v %+v %s", l, e, c.Hear(n), c.Tick(), whole(c))
			p.tick()
		}
		return out
	}
	if show() != show() {
		t.Error("it is not the same again")
	}
}

// asked names an ask.
type asked struct{ client, seq int }

// cluster is a seat, nodes and clients, what is on its way among them, and the map that the nodes are to be together.
type cluster struct {
	t       *testing.T
	seat    *seat.Seat
	nodes   []*keeper.Keeper // from 1 on; nil: it is down
	disks   []*medium.Medium
	callers []*Caller
	taken   []int // how many asks of each caller
	way     []note.Note
	m       map[string]api.Record // by sort keys
	done    map[asked]api.Reply   // what puts and deletes were answered
	told    map[asked][]api.Reply // what nodes told of each ask, but ErrEpoch
}

func newCluster(t *testing.T, nodes, every, tries int) *cluster {
	c := &cluster{t: t, m: map[string]api.Record{}, done: map[asked]api.Reply{}, told: map[asked][]api.Reply{}, nodes: make([]*keeper.Keeper, nodes+1), taken: make([]int, api.MaxClients)}
	for i := range nodes + 1 {
		c.disks = append(c.disks, medium.New())
		c.start(i)
	}
	for client := range api.MaxClients {
		x, e := New(client, table(), every, tries)
		want(t, "New", e, api.OK)
		c.callers = append(c.callers, x)
	}
	return c
}

// crash takes the seat or a node down.
func (c *cluster) crash(i, keep int) {
	c.disks[i].Crash(keep)
	if i == 0 {
		c.seat = nil
	} else {
		c.nodes[i] = nil
	}
}

// start opens the seat or a node anew.
func (c *cluster) start(i int) {
	e := api.OK
	if i == 0 {
		c.seat, e = seat.Open(table(), c.disks[0], len(c.nodes)-1)
	} else {
		c.nodes[i], e = keeper.Open(i, table(), c.disks[i], 16, 6)
	}
	want(c.t, "Open", e, api.OK)
}

func (c *cluster) isDown(i int) bool { return i == 0 && c.seat == nil || i > 0 && c.nodes[i] == nil }

// tick lets the seat or a node tick.
func (c *cluster) tick(i int) {
	if i == 0 {
		c.way = append(c.way, c.seat.Tick()...)
	} else {
		c.way = append(c.way, c.nodes[i].Tick()...)
	}
}

// deliver takes the i-th note that is on its way to whom it is for; one to who is down is lost.
func (c *cluster) deliver(i int) {
	n := c.way[i]
	c.way = slices.Delete(c.way, i, i+1)
	switch {
	case n.To >= 100:
		c.way = append(c.way, c.callers[n.To-100].Hear(n)...)
	case n.To == 0:
		c.way = append(c.way, c.seat.Hear(n)...)
	case n.To < len(c.nodes):
		l := c.nodes[n.To].Hear(n)
		c.way = append(c.way, l...)
		if len(l) == 1 && n.Kind == note.Ask && l[0].Reply.Err != api.ErrEpoch {
			c.judge(n.Ask, l[0].Reply)
		}
	default:
		c.t.Fatalf("%+v is for no party", n)
	}
}

// judge holds a node's answer against the map, and brings the map further.
func (c *cluster) judge(a api.Ask, r api.Reply) {
	what, id := fmt.Sprintf("%+v", a), asked{a.Client, a.Seq}
	want(c.t, what, []any{r.Err, r.Client, r.Seq}, []any{api.OK, a.Client, a.Seq})
	c.told[id] = append(c.told[id], r)
	if a.Do == 4 {
		c.judgePage(a, r)
		return
	}
	k := key(a.Text)
	was, found := c.m[k]
	if a.Do == 3 {
		want(c.t, what, []any{r.Found, r.Val}, []any{found, was.Val})
		return
	}
	if before, ok := c.done[id]; ok {
		want(c.t, what+", told again", r, before)
		return
	}
	want(c.t, what, r.Found, found)
	c.done[id] = r
	delete(c.m, k)
	if a.Do == 1 {
		c.m[k] = api.Record{Text: a.Text, Val: a.Val}
	}
}

// judgePage holds a page against the map: it has just the records from a's From on to where it ends.
func (c *cluster) judgePage(a api.Ask, r api.Reply) {
	var l []api.Record
	for _, k := range slices.Sorted(maps.Keys(c.m)) {
		if k >= a.From && (r.Next == "" || k < r.Next) {
			l = append(l, c.m[k])
		}
	}
	want(c.t, fmt.Sprintf("%+v, till %x", a, r.Next), r.L, l)
}

// ask lets a client ask something, if none of its asks is open.
func (c *cluster) ask(roll func(int) int) {
	client := roll(api.MaxClients)
	x := c.callers[client]
	a := api.Ask{Do: pick(roll, []int{1, 1, 1, 2, 3, 4}), Text: pick(roll, someTexts), Val: fmt.Sprint(client, c.taken[client]), Limit: 1 + roll(9)}
	if a.Do == 4 {
		a.From = someKey(roll)
	}
	open := x.Open()
	l, e := x.Ask(a)
	if open {
		want(c.t, "another ask", e, api.ErrBusy)
		return
	}
	want(c.t, "Ask", e, api.OK)
	c.taken[client]++
	c.way = append(c.way, l...)
}

// look holds what clients were answered against what nodes told of their asks.
func (c *cluster) look() (answered, timeouts int) {
	for client, x := range c.callers {
		l := x.Answers()
		open := 0
		if x.Open() {
			open = 1
		}
		want(c.t, "how many are answered", len(l)+open, c.taken[client])
		for i, r := range l {
			want(c.t, "whose, and which one it is", []int{r.Client, r.Seq}, []int{client, i + 1})
			isTold := slices.ContainsFunc(c.told[asked{client, i + 1}], func(y api.Reply) bool { return fmt.Sprint(y) == fmt.Sprint(r) })
			switch {
			case isTold:
				answered++
			case r.Err == api.ErrTimeout:
				timeouts++
			default:
				c.t.Fatalf("%+v is told by no node", r)
			}
		}
	}
	return answered, timeouts
}

// settle starts who is down, and delivers everything for some rounds.
func (c *cluster) settle(rounds int) {
	for i := range c.nodes {
		if c.isDown(i) {
			c.start(i)
		}
	}
	for range rounds {
		for i := range c.nodes {
			c.tick(i)
		}
		for _, x := range c.callers {
			c.way = append(c.way, x.Tick()...)
		}
		for range api.MaxBag {
			if len(c.way) > 0 {
				c.deliver(0)
			}
		}
	}
}

// step lets any one thing happen.
func (c *cluster) step(roll func(int) int) {
	i := roll(len(c.nodes))
	switch roll(40) {
	case 0:
		c.seat.Split(someKey(roll))
	case 1:
		c.seat.Merge(roll(6))
	case 2:
		c.seat.Move(roll(6), 1+roll(5))
	case 3:
		if c.isDown(i) {
			c.start(i)
		} else if roll(4) == 0 {
			c.crash(i, roll(9))
		}
	case 4, 5, 6, 7:
		c.tick(i)
	case 8, 9:
		x := pick(roll, c.callers)
		c.way = append(c.way, x.Tick()...)
	case 10, 11, 12:
		c.ask(roll)
	default:
		if len(c.way) == 0 {
			return
		}
		i := min(roll(len(c.way)), roll(len(c.way)))
		switch {
		case roll(20) == 0 || len(c.way) > 40:
			c.way = slices.Delete(c.way, i, i+1)
		case roll(20) == 0:
			c.way = append(c.way, c.way[i])
		default:
			c.deliver(i)
		}
	}
}

// TestT2T3T5AnyRunsOfAll lets any things happen to notes and parties: what clients are answered is that of one map, pages tell just what there is, and in the end all asks are answered.
func TestT2T3T5AnyRunsOfAll(t *testing.T) {
	answered, timeouts, changes, late := 0, 0, 0, 0
	for run := range 120 {
		roll := dice(uint64(5000 + run))
		every := 1 + roll(4)
		c := newCluster(t, 1+roll(5), every, 40/every+roll(9)+1)
		if roll(3) == 0 {
			c = newCluster(t, 1+roll(5), every, 1+roll(4)) // so that some are given up
		}
		for range 3000 {
			c.step(roll)
		}
		c.look()
		c.settle(40)
		n, m := c.look()
		answered, timeouts, changes = answered+n, timeouts+m, changes+c.seat.Atlas().Epoch
		want(t, "Busy at the end", c.seat.Busy(), false)
		for client, x := range c.callers {
			want(t, "Open at the end", x.Open(), false)
			for i, r := range x.Answers() {
				if _, ok := c.done[asked{client, i + 1}]; ok && r.Err == api.ErrTimeout {
					late++
				}
			}
		}
		c.getAll()
	}
	if answered < 5000 || timeouts < 500 || changes < 1000 || late < 20 {
		t.Errorf("%d asks answered, %d given up, %d of these done; %d changes", answered, timeouts, late, changes)
	}
}

// getAll asks for each text, while nothing is lost: each is answered at once, or, where the atlas that is known is old, by a Where and a Map.
func (c *cluster) getAll() {
	for client, x := range c.callers {
		for _, text := range someTexts {
			l, e := x.Ask(aGet(text))
			want(c.t, "Ask", e, api.OK)
			c.taken[client]++
			c.way = append(c.way, l...)
			for x.Open() {
				for len(c.way) > 0 {
					c.deliver(0)
				}
				if x.Open() {
					c.settle(1)
				}
			}
			r := x.Answers()[c.taken[client]-1]
			was, found := c.m[key(text)]
			want(c.t, "a get at the end", r, api.Reply{Client: client, Seq: c.taken[client], Found: found, Val: was.Val})
		}
	}
}

// TestT5AnOldAtlasIsFollowed moves what a client asks for from node to node: it is sent where it was, told that it is elsewhere, asks where, and is answered within the same tick.
func TestT5AnOldAtlasIsFollowed(t *testing.T) {
	c := newCluster(t, 5, 4, 10)
	c.settle(2)
	x := c.callers[1]
	for i := range 20 {
		want(t, "Move", c.seat.Move(0, 1+(i+1)%5), api.OK)
		c.settle(3)
		a := aPut("a", fmt.Sprint(i))
		if i%2 == 1 {
			a = aGet("a")
		}
		l, e := x.Ask(a)
		want(t, "Ask", e, api.OK)
		c.taken[1]++
		c.way = l
		var kinds []int
		for len(c.way) > 0 {
			kinds = append(kinds, c.way[0].Kind)
			c.deliver(0)
		}
		path := []int{note.Ask, note.Reply, note.Where, note.Map, note.Ask, note.Reply}
		if i == 0 {
			path = []int{note.Where, note.Map, note.Ask, note.Reply} // it knew none
		}
		want(t, "what was on its way", kinds, path)
		r := api.Reply{Client: 1, Seq: i + 1, Found: i > 0}
		if i%2 == 1 {
			r.Val = fmt.Sprint(i - 1)
		}
		want(t, "the answer", x.Answers()[i], r)
	}
}
