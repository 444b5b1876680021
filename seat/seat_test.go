package seat

import (
	"bytes"
	"fmt"
	"math"
	"reflect"
	"slices"
	"strings"
	"testing"

	"gazetteer/api"
	"gazetteer/atlas"
	"gazetteer/journal"
	"gazetteer/medium"
	"gazetteer/note"
	"gazetteer/once"
	"gazetteer/seal"
	"gazetteer/store"
)

func ExampleOpen() {
	s, e := Open(api.Table{}, medium.New(), 3)
	for _, n := range s.Tick() {
		fmt.Println(e, n.Kind == note.Install, n.To)
	}
	// Output: ok true 1
}

func TestP17_1ANewSeat(t *testing.T) {
	for nodes := 1; nodes <= 5; nodes++ {
		m := medium.New()
		s := open(t, m, nodes)
		for range 3 {
			want(t, "Atlas", s.Atlas(), atlas.Atlas{Epoch: 1, L: []atlas.Shard{{Node: 1, Epoch: 1}}})
			want(t, "Busy", s.Busy(), true)
			want(t, "Tick", s.Tick(), []note.Note{toInstall(1, all(), 1, nil)})
			want(t, "Loose", m.Loose(), 0)
		}
	}
}

func TestP17_1Refused(t *testing.T) {
	tests := []struct {
		what  string
		table api.Table
		m     *medium.Medium
		nodes int
		e     api.Errno
	}{
		{"a table that may not be", badTable(), medium.New(), 1, api.ErrTable},
		{"and no medium, no nodes", badTable(), nil, 0, api.ErrTable},
		{"no medium", table(), nil, 1, api.ErrArg},
		{"no nodes", table(), medium.New(), 0, api.ErrArg},
		{"more nodes than there are", table(), medium.New(), 6, api.ErrArg},
		{"nodes below 0", table(), medium.New(), -1, api.ErrArg},
		{"the least number", table(), medium.New(), math.MinInt, api.ErrArg},
		{"the greatest number", table(), medium.New(), math.MaxInt, api.ErrArg},
		{"bytes that are no seat's", table(), lying("x"), 1, api.ErrForm},
		{"and a table that may not be", badTable(), lying("x"), 1, api.ErrForm},
		{"and no nodes", table(), lying("x"), 0, api.ErrForm},
	}
	for _, x := range tests {
		was := x.m.Bytes()
		s, e := Open(x.table, x.m, x.nodes)
		if s != nil || e != x.e || !bytes.Equal(x.m.Bytes(), was) {
			t.Errorf("%s: %v, %v, want %v; %d bytes", x.what, s, e, x.e, len(x.m.Bytes()))
		}
	}
}

// lying answers a medium with bytes that are synced.
func lying(b string) *medium.Medium {
	m := medium.New()
	m.Swap([]byte(b))
	return m
}

func TestP17_1BytesThatAreNoSeats(t *testing.T) {
	stores := medium.New()
	h, _ := store.Open(table(), stores, 9)
	h.Hold(all(), 1, recs("a"), nil)
	h.Do(api.Ask{Do: 1, Client: 1, Seq: 1, Text: "b"})
	h.Freeze(all(), 1)
	h.Drop(all(), 1)
	great := medium.New()
	h, _ = store.Open(table(), great, 9)
	h.Hold(all(), 1, nil, []once.Last{{Reply: api.Reply{Val: strings.Repeat("x", 30000)}}})
	frame, _ := seal.Frame(7, []byte("x"))
	other, _ := seal.Frame(6, nil)
	tests := map[string]string{
		"a letter": "x", "a zero byte": "\x00", "zero bytes": strings.Repeat("\x00", 100), "bytes 255": strings.Repeat("\xff", 100),
		"text": "this is no seat's medium, but a text", "a frame": string(frame), "a frame of another kind": string(other),
		"a store's": string(stores.Bytes()), "a store's great one": string(great.Bytes()),
		"any deed": frames(journal.Deed{Do: 1}), "a deed of all noughts": frames(journal.Deed{}),
		"a piece alone": frames(journal.Deed{Do: piece, L: []api.Record{{Val: "x"}}}),
	}
	for what, b := range tests {
		m := lying(b)
		if s, e := Open(table(), m, 2); s != nil || e != api.ErrForm || string(m.Bytes()) != b {
			t.Errorf("%s: %v, %v; %d bytes", what, s, e, len(m.Bytes()))
		}
		loose := medium.New() // nothing is synced for its being refused, either
		loose.Append([]byte(b))
		if _, e := Open(table(), loose, 2); e != api.ErrForm || loose.Loose() != len(b) {
			t.Errorf("%s, loose: %v; %d bytes are", what, e, loose.Loose())
		}
	}
}

// frames answers deeds' bytes.
func frames(l ...journal.Deed) string {
	m := medium.New()
	for _, d := range l {
		journal.Add(m, d)
	}
	return string(m.Bytes())
}

// told answers the bytes of what deeds tell, one behind the other.
func told(l ...[]journal.Deed) string { return frames(slices.Concat(l...)...) }

func packed(n note.Note) []byte {
	b, e := note.Pack(n)
	if e != api.OK {
		panic(e)
	}
	return b
}

// TestP17_1DeedsThatCannotHaveComeAbout has frames that open, and deeds as a seat writes them, but not in such an order.
func TestP17_1DeedsThatCannotHaveComeAbout(t *testing.T) {
	news, here := journal.Pieces(begun, piece, nil), packed(note.Note{Kind: note.Map, To: 1, Atlas: atlas.First(2)})
	at := journal.Pieces(settled, piece, here)
	c, _ := change{do: split, key: "k"}.pack()
	cut := journal.Pieces(planned, piece, c)
	frozen := journal.Pieces(heard, piece, packed(bundle(2, all(), 1, nil)))
	done := journal.Pieces(heard, piece, packed(by(note.Done, 1, all(), 1)))
	many, _ := change{do: 4, key: "k"}.pack()
	none, _ := change{}.pack()
	far, _ := change{do: merge, i: 0}.pack()
	self, _ := change{do: move, i: 0, node: 2}.pack()
	one := func(d journal.Deed) []journal.Deed { return []journal.Deed{d} }
	may := [][][]journal.Deed{{news}, {at}, {at, cut}, {at, cut, frozen}, {news, done}, {news, done, cut}}
	not := [][][]journal.Deed{
		{news, news}, {news, at}, {at, at}, {at, news}, {at, cut, at}, {cut}, {frozen}, {done}, {done, news}, {frozen, at},
		{news, cut}, {at, frozen}, {at, done}, {at, cut, cut}, {at, cut, done}, {at, cut, frozen, frozen}, {at, cut, frozen, cut}, {news, done, done}, {news, frozen},
		{at, journal.Pieces(planned, piece, many)}, {at, journal.Pieces(planned, piece, none)}, {at, journal.Pieces(planned, piece, far)}, {at, journal.Pieces(planned, piece, self)},
		{at, journal.Pieces(planned, piece, c[1:])}, {at, journal.Pieces(planned, piece, append(slices.Clone(c), 0))}, {at, journal.Pieces(planned, piece, nil)},
		{at, journal.Pieces(heard, piece, nil)}, {news, journal.Pieces(heard, piece, here)},
		{journal.Pieces(settled, piece, nil)}, {journal.Pieces(settled, piece, here[1:])}, {journal.Pieces(settled, piece, packed(note.Note{Kind: note.Grant, To: 1, Atlas: atlas.First(1)}))},
		{journal.Pieces(begun, piece, []byte("x"))}, {journal.Pieces(begun-1, piece, nil)}, {journal.Pieces(piece+1, piece, nil)}, {at, journal.Pieces(0, piece, nil)}, {at, journal.Pieces(1<<28-1, piece, c)},
		{one(journal.Deed{Do: begun})}, {one(journal.Deed{Do: begun, L: []api.Record{{}, {}}})}, {one(journal.Deed{Do: begun, L: []api.Record{{Text: "x"}}})},
		{one(journal.Deed{Do: begun, L: []api.Record{{}}, Epoch: 1})}, {one(journal.Deed{Do: begun, L: []api.Record{{}}, Err: 1})}, {one(journal.Deed{Do: begun, L: []api.Record{{}}, Span: api.Span{To: "x"}})}, {one(journal.Deed{Do: begun, L: []api.Record{{}}, Ask: api.Ask{Do: 1}})},
	}
	for i, l := range may {
		if _, e := Open(table(), lying(told(l...)), 3); e != api.OK {
			t.Errorf("%d, that may be: %v", i, e)
		}
	}
	for i, l := range not {
		b := told(l...)
		m := lying(b)
		if s, e := Open(table(), m, 3); s != nil || e != api.ErrForm || string(m.Bytes()) != b {
			t.Errorf("%d, that may not be: %v", i, e)
		}
	}
}

func TestP17_1BusyTillTheFirstShardIsInstalled(t *testing.T) {
	m := medium.New()
	s := open(t, m, 3)
	was := m.Bytes()
	busy := func(what string) {
		t.Helper()
		want(t, what, []any{s.Busy(), s.Split("k"), s.Split(""), s.Merge(0), s.Merge(-1), s.Move(0, 2), s.Move(9, 9)}, []any{true, api.ErrBusy, api.ErrBusy, api.ErrBusy, api.ErrBusy, api.ErrBusy, api.ErrBusy})
		want(t, what+", bytes", m.Bytes(), was)
	}
	busy("at first")
	s.Tick()
	busy("behind a tick")
	tell(t, s, by(note.Done, 2, all(), 1), by(note.Done, 1, all(), 2), by(note.Done, 1, api.Span{To: "x"}, 1), by(note.Gone, 1, all(), 1), bundle(1, all(), 1, nil))
	busy("behind what is not awaited")
	s = open(t, m, 3)
	busy("opened anew")
	tell(t, s, by(note.Done, 1, all(), 1))
	want(t, "installed", []any{s.Busy(), s.Tick(), s.Atlas()}, []any{false, []note.Note(nil), atlas.First(1)})
	s = open(t, m, 3)
	want(t, "opened anew", []any{s.Busy(), s.Tick(), s.Atlas()}, []any{false, []note.Note(nil), atlas.First(1)})
	want(t, "a change", s.Split("k"), api.OK)
}

func TestP17_1AtlasErrors(t *testing.T) {
	s, m := installed(t, 3)
	want(t, "one shard", []api.Errno{s.Split(""), s.Merge(0), s.Merge(-1), s.Merge(1), s.Move(0, 1), s.Move(0, 0), s.Move(0, 4), s.Move(1, 2), s.Move(-1, 2), s.Move(math.MaxInt, math.MinInt)},
		slices.Repeat([]api.Errno{api.ErrArg}, 10))
	for i := range 11 {
		want(t, "Split", s.Split(string(rune('a'+i))), api.OK)
		finish(t, s)
	}
	was, told := whole(s), m.Bytes()
	want(t, "twelve shards", []api.Errno{s.Split("z"), s.Split("b"), s.Split(""), s.Merge(11), s.Merge(12), s.Merge(math.MaxInt), s.Move(12, 2), s.Move(11, 4), s.Move(11, 1)},
		[]api.Errno{api.ErrFull, api.ErrArg, api.ErrArg, api.ErrArg, api.ErrArg, api.ErrArg, api.ErrArg, api.ErrArg, api.ErrArg})
	want(t, "what is refused changes nothing", []any{whole(s), m.Bytes()}, []any{was, told})
	want(t, "the last one moves", s.Move(11, 3), api.OK)
}

func TestP17_1NodesAreAsOpened(t *testing.T) {
	s, m := installed(t, 5)
	want(t, "to node 5", s.Move(0, 5), api.OK)
	finish(t, s)
	s = open(t, m, 2)
	want(t, "fewer nodes", []any{s.Atlas().L[0].Node, s.Move(0, 1), s.Split("k")}, []any{5, api.ErrArg, api.OK})
	s = open(t, m, 2)
	want(t, "the change is at work", []any{s.Busy(), s.Tick()}, []any{true, []note.Note{to(note.Freeze, 5, all(), 2)}})
	s, m = installed(t, 2)
	want(t, "a node that there is not", []any{s.Move(0, 3), s.Move(0, 2)}, []any{api.ErrArg, api.OK})
	s = open(t, m, 1)
	want(t, "planned with more nodes", s.Busy(), true)
	finish(t, s)
	want(t, "and done", s.Atlas(), atlas.Atlas{Epoch: 2, L: []atlas.Shard{shard(all(), 2, 2)}})
}

func TestP17_2Split(t *testing.T) {
	s, m := installed(t, 3)
	k := key("e")
	low, high := keys("", "e"), keys("e", "")
	want(t, "Split", s.Split(k), api.OK)
	want(t, "planned", []any{s.Busy(), s.Atlas(), s.Merge(0), m.Loose()}, []any{true, atlas.First(1), api.ErrBusy, 0})
	for range 3 {
		want(t, "Tick", s.Tick(), []note.Note{to(note.Freeze, 1, all(), 1)})
	}
	tell(t, s, bundle(1, all(), 1, recs("a", "d", "e", "é", "f"), last(1, 4), last(3, 2)))
	then := atlas.Atlas{Epoch: 2, L: []atlas.Shard{shard(low, 1, 2), shard(high, 1, 2)}}
	want(t, "committed", []any{s.Busy(), s.Atlas(), s.Split("zz"), m.Loose()}, []any{true, then, api.ErrBusy, 0})
	both := []note.Note{
		toInstall(1, low, 2, recs("a", "d"), last(1, 4), last(3, 2)),
		toInstall(1, high, 2, recs("e", "é", "f"), last(1, 4), last(3, 2)),
		to(note.Forget, 1, all(), 1),
	}
	for range 3 {
		want(t, "Tick", s.Tick(), both)
	}
	tell(t, s, by(note.Done, 1, high, 2))
	want(t, "one is installed", []any{s.Busy(), s.Tick()}, []any{true, []note.Note{both[0], both[2]}})
	tell(t, s, by(note.Gone, 1, all(), 1))
	want(t, "one is forgotten", []any{s.Busy(), s.Tick()}, []any{true, both[:1]})
	tell(t, s, by(note.Done, 1, low, 2))
	want(t, "at its end", []any{s.Busy(), s.Tick(), s.Atlas(), m.Loose()}, []any{false, []note.Note(nil), then, 0})
}

func TestP17_2Move(t *testing.T) {
	s, _ := installed(t, 3)
	want(t, "Move", s.Move(0, 3), api.OK)
	want(t, "Tick", s.Tick(), []note.Note{to(note.Freeze, 1, all(), 1)})
	tell(t, s, bundle(1, all(), 1, recs("b", "c"), last(0, 1)))
	want(t, "Tick", s.Tick(), []note.Note{toInstall(3, all(), 2, recs("b", "c"), last(0, 1)), to(note.Forget, 1, all(), 1)})
	tell(t, s, by(note.Gone, 3, all(), 1), by(note.Done, 1, all(), 2), by(note.Gone, 1, all(), 2), by(note.Done, 3, all(), 1))
	want(t, "others than are awaited", len(s.Tick()), 2)
	tell(t, s, by(note.Gone, 1, all(), 1))
	want(t, "Tick", s.Tick(), []note.Note{toInstall(3, all(), 2, recs("b", "c"), last(0, 1))})
	tell(t, s, by(note.Done, 3, all(), 2))
	want(t, "at its end", []any{s.Busy(), s.Atlas()}, []any{false, atlas.Atlas{Epoch: 2, L: []atlas.Shard{shard(all(), 3, 2)}}})
}

// twoNodes answers a seat with shards of nodes 1 (till e) and 2 (from e on), of epochs 2 and 3.
func twoNodes(t *testing.T) (*Seat, *medium.Medium) {
	t.Helper()
	s, m := installed(t, 3)
	s.Split(key("e"))
	finish(t, s)
	s.Move(1, 2)
	finish(t, s)
	want(t, "two nodes", s.Atlas(), atlas.Atlas{Epoch: 3, L: []atlas.Shard{shard(keys("", "e"), 1, 2), shard(keys("e", ""), 2, 3)}})
	return s, m
}

func TestP17_2Merge(t *testing.T) {
	low, high := keys("", "e"), keys("e", "")
	first := bundle(1, low, 2, recs("a", "d"), last(0, 3), last(1, 9))
	second := bundle(2, high, 3, recs("e", "z"), last(1, 8), last(2, 1))
	for _, l := range [][]note.Note{{first, second}, {second, first}} {
		s, m := twoNodes(t)
		want(t, "Merge", s.Merge(0), api.OK)
		for range 2 {
			want(t, "Tick", s.Tick(), []note.Note{to(note.Freeze, 1, low, 2), to(note.Freeze, 2, high, 3)})
		}
		tell(t, s, l[0])
		left := to(note.Freeze, l[1].From, l[1].Span, l[1].Epoch)
		want(t, "one has come", []any{s.Tick(), s.Atlas().Epoch, s.Busy()}, []any{[]note.Note{left}, 3, true})
		again := l[0]
		again.L, again.Last = recs("c"), nil
		tell(t, s, again)
		s = open(t, m, 3)
		want(t, "opened anew", []any{s.Tick(), s.Atlas().Epoch, s.Busy()}, []any{[]note.Note{left}, 3, true})
		tell(t, s, again, l[1])
		want(t, "committed", s.Atlas(), atlas.Atlas{Epoch: 4, L: []atlas.Shard{shard(all(), 1, 4)}})
		want(t, "Tick", s.Tick(), []note.Note{
			toInstall(1, all(), 4, recs("a", "d", "e", "z"), last(0, 3), last(1, 9), last(2, 1)),
			to(note.Forget, 1, low, 2), to(note.Forget, 2, high, 3),
		})
		tell(t, s, by(note.Gone, 2, high, 3), by(note.Done, 1, all(), 4))
		want(t, "Tick", s.Tick(), []note.Note{to(note.Forget, 1, low, 2)})
		tell(t, s, by(note.Gone, 1, low, 2))
		want(t, "at its end", []any{s.Busy(), s.Tick()}, []any{false, []note.Note(nil)})
	}
}

func TestP17_2OfAlikeLastAnswersTheFirstShardsStays(t *testing.T) {
	s, _ := twoNodes(t)
	s.Merge(0)
	a, b := last(1, 5), last(1, 5)
	a.Reply.Val, b.Reply.Val = "a", "b"
	tell(t, s, bundle(2, keys("e", ""), 3, nil, b), bundle(1, keys("", "e"), 2, nil, a))
	want(t, "Last", s.Tick()[0].Last, []once.Last{a})
}

// TestP17_2RecordsOfNoShard: what is in no new shard's span is in none of the notes.
func TestP17_2RecordsOfNoShard(t *testing.T) {
	s, _ := twoNodes(t)
	s.Move(1, 3)
	tell(t, s, bundle(2, keys("e", ""), 3, []api.Record{rec("d"), rec("e"), {Text: "\xff", Val: "x"}, {Text: strings.Repeat("a", 65)}, rec("f"), rec("a")}))
	want(t, "L", s.Tick()[0].L, recs("e", "f"))
}

func TestP17_2OtherShardsStay(t *testing.T) {
	s, _ := twoNodes(t)
	s.Split(key("k"))
	finish(t, s)
	want(t, "three", s.Atlas(), atlas.Atlas{Epoch: 4, L: []atlas.Shard{shard(keys("", "e"), 1, 2), shard(keys("e", "k"), 2, 4), shard(keys("k", ""), 2, 4)}})
	s.Merge(0)
	want(t, "Tick", s.Tick(), []note.Note{to(note.Freeze, 1, keys("", "e"), 2), to(note.Freeze, 2, keys("e", "k"), 4)})
	tell(t, s, bundle(1, keys("", "e"), 2, nil), bundle(2, keys("e", "k"), 4, nil))
	want(t, "two", s.Atlas(), atlas.Atlas{Epoch: 5, L: []atlas.Shard{shard(keys("", "k"), 1, 5), shard(keys("k", ""), 2, 4)}})
	want(t, "Tick", s.Tick(), []note.Note{to(note.Install, 1, keys("", "k"), 5), to(note.Forget, 1, keys("", "e"), 2), to(note.Forget, 2, keys("e", "k"), 4)})
}

func TestP17_3WhereAndBeat(t *testing.T) {
	s, m := twoNodes(t)
	was, told := whole(s), m.Bytes()
	a := s.Atlas()
	for _, from := range []int{1, 2, 3, 4, 5, 100, 101, 102, 103} {
		want(t, "Where", s.Hear(note.Note{Kind: note.Where, From: from}), []note.Note{{Kind: note.Map, To: from, Atlas: a}})
		for _, tick := range []int{0, 1, 77, 1<<28 - 1} {
			want(t, "Beat", s.Hear(note.Note{Kind: note.Beat, From: from, Tick: tick}), []note.Note{{Kind: note.Grant, To: from, Tick: tick, Atlas: a}})
		}
	}
	want(t, "they change nothing", []any{whole(s), m.Bytes()}, []any{was, told})
	s.Split("zz")
	want(t, "planned", s.Hear(note.Note{Kind: note.Where, From: 100})[0].Atlas, a)
	tell(t, s, bundle(2, keys("e", ""), 3, nil))
	now := s.Hear(note.Note{Kind: note.Where, From: 100})[0].Atlas
	want(t, "committed", []any{now.Epoch, now}, []any{4, s.Atlas()})
}

func TestP17_3WhatMayNotBeOrIsForOthers(t *testing.T) {
	s, m := twoNodes(t)
	s.Merge(0)
	was, told := whole(s), m.Bytes()
	where := note.Note{Kind: note.Where, From: 100}
	l := []note.Note{
		{}, {Kind: note.Where}, {Kind: note.Where, From: 6}, {Kind: note.Where, From: 99}, {Kind: note.Where, From: 104}, {Kind: note.Where, From: -1},
		{Kind: note.Where, From: 100, To: 1}, {Kind: note.Where, From: 1, To: 100}, {Kind: note.Beat, From: 1, To: 2, Tick: 3}, {Kind: note.Beat, From: 1, To: -1},
		{Kind: note.Where, From: 100, Tick: 1}, {Kind: note.Where, From: 100, Epoch: 1}, {Kind: note.Beat, From: 1, Tick: -1}, {Kind: note.Beat, From: 1, Tick: 1 << 28}, {Kind: note.Beat, From: 1, Epoch: 1},
		{Kind: 13, From: 1}, {Kind: -1, From: 1},
		{Kind: note.Bundle, From: 1, To: 2, Span: keys("", "e"), Epoch: 2}, {Kind: note.Bundle, From: 1, Span: keys("", "e"), Epoch: 2, Tick: 1}, {Kind: note.Bundle, From: 1, Span: keys("", "e"), Epoch: 2, Atlas: atlas.First(1)},
		{Kind: note.Bundle, From: 1, Span: keys("", "e"), Epoch: 2, Last: []once.Last{{Seq: -1}}},
		{Kind: note.Ask, From: 100, Ask: api.Ask{Do: 1}}, {Kind: note.Reply, From: 1}, {Kind: note.Map, From: 1, Atlas: atlas.First(2)}, {Kind: note.Grant, From: 1, Atlas: atlas.First(2)},
		{Kind: note.Freeze, From: 1, Span: keys("", "e"), Epoch: 2}, {Kind: note.Install, From: 1, Span: keys("", "e"), Epoch: 2}, {Kind: note.Forget, From: 1, Span: keys("", "e"), Epoch: 2},
	}
	for _, n := range l {
		if got := s.Hear(n); got != nil {
			t.Errorf("%+v is answered: %+v", n, got)
		}
		want(t, fmt.Sprintf("behind %+v", n), []any{whole(s), m.Bytes()}, []any{was, told})
	}
	if len(s.Hear(where)) != 1 {
		t.Error("Where is not answered")
	}
}

// TestP17_3OthersThanAreAwaited has notes that differ from what is awaited in one thing each, at each step of a change.
func TestP17_3OthersThanAreAwaited(t *testing.T) {
	s, m := twoNodes(t)
	s.Merge(0)
	steps := 0
	for s.Busy() {
		for _, w := range s.Tick() {
			good := by(answerTo[w.Kind], w.To, w.Span, w.Epoch)
			was, told := whole(s), m.Bytes()
			for _, change := range []func(n *note.Note){
				func(n *note.Note) { n.From = n.From%5 + 1 },
				func(n *note.Note) { n.From = 100 },
				func(n *note.Note) { n.Epoch++ },
				func(n *note.Note) { n.Epoch-- },
				func(n *note.Note) { n.Epoch = 0 },
				func(n *note.Note) { n.Span.From += "\x00" },
				func(n *note.Note) { n.Span.To += "\x00" },
				func(n *note.Note) { n.Span = api.Span{From: "b", To: "a"} },
				func(n *note.Note) { n.Kind = note.Bundle + note.Done - n.Kind },
				func(n *note.Note) { n.Kind = w.Kind },
			} {
				n := good
				change(&n)
				if n.Kind != good.Kind && slices.ContainsFunc(s.Tick(), func(w note.Note) bool {
					return answerTo[w.Kind] == n.Kind && w.To == n.From && w.Span == n.Span && w.Epoch == n.Epoch
				}) {
					continue
				}
				tell(t, s, n)
				want(t, fmt.Sprintf("behind %+v", n), []any{whole(s), m.Bytes()}, []any{was, told})
			}
			tell(t, s, good)
			steps++
			if whole(s) == was {
				t.Fatalf("%+v changed nothing", good)
			}
			was, told = whole(s), m.Bytes()
			tell(t, s, good)
			want(t, "told twice", []any{whole(s), m.Bytes()}, []any{was, told})
		}
	}
	want(t, "steps", steps, 5)
}

func TestP17_3LateNotesOfWhatWas(t *testing.T) {
	s, _ := installed(t, 3)
	var late []note.Note
	heard := func() {
		for s.Busy() {
			for _, w := range s.Tick() {
				n := by(answerTo[w.Kind], w.To, w.Span, w.Epoch)
				late = append(late, n)
				tell(t, s, n)
			}
		}
	}
	for _, plan := range []func() api.Errno{
		func() api.Errno { return s.Move(0, 2) }, func() api.Errno { return s.Move(0, 1) }, func() api.Errno { return s.Split("k") },
		func() api.Errno { return s.Merge(0) }, func() api.Errno { return s.Split("k") }, func() api.Errno { return s.Move(1, 3) }, func() api.Errno { return s.Merge(0) },
	} {
		want(t, "a change", plan(), api.OK)
		was := whole(s)
		tell(t, s, late...)
		want(t, "behind all that was", whole(s), was)
		heard()
		was = whole(s)
		tell(t, s, late...)
		want(t, "behind all that was", whole(s), was)
	}
}

func TestR1GreatThings(t *testing.T) {
	s, m := installed(t, 2)
	long := strings.Repeat("k", 100000)
	want(t, "a split at a great key", s.Split(long), api.OK)
	s = open(t, m, 2)
	many := make([]api.Record, 5000)
	for i := range many {
		many[i] = api.Record{Text: string([]byte{byte('a' + i/676%26), byte('a' + i/26%26), byte('a' + i%26)}), Val: strings.Repeat("v", 60)}
	}
	x := last(2, 7)
	x.Reply.Val = strings.Repeat("w", 30000)
	tell(t, s, bundle(1, all(), 1, many, x))
	for range 2 {
		then := s.Tick()
		want(t, "Tick", []any{len(then), then[0].Span, then[1].Span, len(then[0].L) + len(then[1].L), then[0].Last, then[1].Last}, []any{3, api.Span{To: long}, api.Span{From: long}, 5000, []once.Last{x}, []once.Last{x}})
		for _, n := range then {
			want(t, "May", note.May(n), true)
		}
		s = open(t, m, 2)
	}
	want(t, "Loose", m.Loose(), 0)
	finish(t, s)
	if size := len(m.Bytes()); size > 300000 {
		t.Errorf("%d bytes stay behind the end", size)
	}
}

// TestP17_3TheMediumDoesNotGrow: behind a change's end it tells the atlas alone.
func TestP17_3TheMediumDoesNotGrow(t *testing.T) {
	s, m := installed(t, 2)
	var sizes []int
	for i := range 100 {
		want(t, "Move", s.Move(0, 2-i%2), api.OK)
		finish(t, s)
		sizes = append(sizes, len(m.Bytes()))
	}
	if slices.Min(sizes) != slices.Max(sizes) {
		t.Errorf("from %d to %d bytes", slices.Min(sizes), slices.Max(sizes))
	}
}

func TestP17_1TheGreatestEpoch(t *testing.T) {
	a := atlas.Atlas{Epoch: 1<<28 - 2, L: []atlas.Shard{shard(all(), 1, 1<<28-2)}}
	s := open(t, lying(told(journal.Pieces(settled, piece, packed(note.Note{Kind: note.Map, To: 1, Atlas: a})))), 3)
	want(t, "one more", s.Split("k"), api.OK)
	finish(t, s)
	want(t, "no more", []any{s.Atlas().Epoch, s.Split("z"), s.Merge(0), s.Move(0, 2)}, []any{1<<28 - 1, api.ErrArg, api.ErrArg, api.ErrArg})
}

func TestR4WhatIsHandedInStaysAndIsNotKept(t *testing.T) {
	tab := table()
	m := medium.New()
	s, _ := Open(tab, m, 3)
	tell(t, s, by(note.Done, 1, all(), 1))
	s.Split(key("e"))
	n := bundle(1, all(), 1, recs("a", "é", "spare")[:2], last(1, 1), last(2, 2), last(3, 3))
	n.Last[0].Reply.L = recs("x", "y", "spare")[:2]
	n.Last = n.Last[:2]
	for i := range tab.Rows {
		clear(tab.Rows[i].Of)
		clear(tab.Rows[i].To)
	}
	for i := range tab.Lore {
		clear(tab.Lore[i].To)
	}
	clear(tab.Rows)
	clear(tab.Lore)
	tell(t, s, n)
	x := last(1, 1)
	x.Reply.L = recs("x", "y")
	want(t, "what was handed in", []any{n.L[:3], n.Last[:3], n.Last[0].Reply.L[:3]}, []any{recs("a", "é", "spare"), []once.Last{{Seq: 1, Reply: n.Last[0].Reply}, last(2, 2), last(3, 3)}, recs("x", "y", "spare")})
	clear(n.L[:3])
	clear(n.Last[0].Reply.L[:3])
	clear(n.Last[:3])
	then := []note.Note{toInstall(1, keys("", "e"), 2, recs("a"), x, last(2, 2)), toInstall(1, keys("e", ""), 2, recs("é"), x, last(2, 2)), to(note.Forget, 1, all(), 1)}
	want(t, "what was kept", s.Tick(), then)
}

// TestR4ABundleThatWaitsForAnotherIsNotKept has one that is kept for longer than the call.
func TestR4ABundleThatWaitsForAnotherIsNotKept(t *testing.T) {
	s, _ := twoNodes(t)
	s.Merge(0)
	n := bundle(1, keys("", "e"), 2, recs("a", "b"), last(1, 1))
	tell(t, s, n)
	clear(n.Last[0].Reply.L)
	clear(n.Last)
	clear(n.L)
	tell(t, s, bundle(2, keys("e", ""), 3, recs("f")))
	want(t, "what was kept", s.Tick()[0], toInstall(1, all(), 4, recs("a", "b", "f"), last(1, 1)))
}

func TestR4WhatIsAnsweredIsNewMemory(t *testing.T) {
	s, _ := twoNodes(t)
	spoil := func() {
		a := s.Atlas()
		clear(a.L[:cap(a.L)])
		for _, n := range slices.Concat(s.Tick(), s.Hear(note.Note{Kind: note.Where, From: 1}), s.Hear(note.Note{Kind: note.Beat, From: 1})) {
			clear(n.L[:cap(n.L)])
			for _, x := range n.Last {
				clear(x.Reply.L[:cap(x.Reply.L)])
			}
			clear(n.Last[:cap(n.Last)])
			clear(n.Atlas.L[:cap(n.Atlas.L)])
		}
		l := s.Tick()
		clear(l[:cap(l)])
	}
	steady := func() {
		t.Helper()
		was := whole(s)
		spoil()
		want(t, "behind changes of what was answered", whole(s), was)
	}
	steady()
	s.Split(key("k"))
	steady()
	tell(t, s, bundle(2, keys("e", ""), 3, recs("f", "m"), last(1, 1), last(2, 2)))
	steady()
	l := s.Tick() // two lists of one answer share nothing, either
	clear(l[0].Last[0].Reply.L)
	clear(l[0].Last)
	want(t, "the other one", l[1].Last, []once.Last{last(1, 1), last(2, 2)})
	tell(t, s, by(note.Done, 2, keys("e", "k"), 4))
	steady()
	finish(t, s)
	steady()
}

func TestR7NilSeat(t *testing.T) {
	var s *Seat
	want(t, "nil", []any{s.Atlas(), s.Busy(), s.Split("k"), s.Merge(0), s.Move(0, 1), s.Hear(note.Note{Kind: note.Where, From: 1}), s.Tick()},
		[]any{atlas.Atlas{}, false, api.ErrArg, api.ErrArg, api.ErrArg, []note.Note(nil), []note.Note(nil)})
}

func TestR1ZeroSeat(t *testing.T) {
	var s Seat
	want(t, "zero", []any{s.Atlas(), s.Busy(), s.Split("k"), s.Merge(0), s.Move(0, 1), s.Tick()}, []any{atlas.Atlas{}, false, api.ErrArg, api.ErrArg, api.ErrArg, []note.Note(nil)})
	for kind := range 14 {
		s.Hear(note.Note{Kind: kind, From: 1})
	}
	if !reflect.DeepEqual(s, Seat{}) {
		t.Errorf("it is %+v", s)
	}
}
