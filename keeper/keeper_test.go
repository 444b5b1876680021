package keeper

import (
	"bytes"
	"fmt"
	"math"
	"strings"
	"testing"

	"gazetteer/api"
	"gazetteer/atlas"
	"gazetteer/medium"
	"gazetteer/note"
	"gazetteer/once"
	"gazetteer/store"
)

func ExampleOpen() {
	k, e := Open(1, api.Table{}, medium.New(), 16, 8)
	for _, n := range k.Hear(note.Note{Kind: note.Ask, From: 100, To: 1, Ask: api.Ask{Do: 3, Seq: 1, Text: "a"}}) {
		fmt.Println(e, n.Kind == note.Reply, n.To, n.Reply.Err)
	}
	// Output: ok true 100 epoch
}

func TestP18_1OpenOfWhatMayNotBe(t *testing.T) {
	tests := []struct {
		what         string
		node         int
		table        api.Table
		m            *medium.Medium
		full, length int
		e            api.Errno
	}{
		{"node 0", 0, table(), torn(), 4, 3, api.ErrArg},
		{"node 6", 6, table(), torn(), 4, 3, api.ErrArg},
		{"a node below 0", -1, table(), torn(), 4, 3, api.ErrArg},
		{"a client's number", 100, table(), torn(), 4, 3, api.ErrArg},
		{"the least number", math.MinInt, table(), torn(), 4, 3, api.ErrArg},
		{"the greatest number", math.MaxInt, table(), torn(), 4, 3, api.ErrArg},
		{"no ticks", 1, table(), torn(), 4, 0, api.ErrArg},
		{"ticks below 0", 1, table(), torn(), 4, -1, api.ErrArg},
		{"more than MaxTick", 1, table(), torn(), 4, api.MaxTick + 1, api.ErrArg},
		{"the least length", 1, table(), torn(), 4, math.MinInt, api.ErrArg},
		{"the greatest length", 1, table(), torn(), 4, math.MaxInt, api.ErrArg},
		{"a table that may not be", 1, badTable(), torn(), 4, 3, api.ErrTable},
		{"and no medium, no records", 1, badTable(), nil, 0, 3, api.ErrTable},
		{"node 0, and a table that may not be", 0, badTable(), nil, 0, 3, api.ErrArg},
		{"no ticks, and a table that may not be", 1, badTable(), nil, 0, 0, api.ErrArg},
		{"no medium", 1, table(), nil, 4, 3, api.ErrArg},
		{"no records", 1, table(), torn(), 0, 3, api.ErrArg},
		{"more records than there may be", 1, table(), torn(), api.MaxFull + 1, 3, api.ErrArg},
	}
	for _, x := range tests {
		was, loose := x.m.Bytes(), x.m.Loose()
		k, e := Open(x.node, x.table, x.m, x.full, x.length)
		if k != nil || e != x.e || !bytes.Equal(x.m.Bytes(), was) || x.m.Loose() != loose {
			t.Errorf("%s: %v, %v, want %v; %d bytes, %d loose", x.what, k, e, x.e, len(x.m.Bytes()), x.m.Loose())
		}
	}
}

// torn answers a medium with bytes that are not synced, which a store would cut off.
func torn() *medium.Medium {
	m := medium.New()
	m.Append([]byte("torn"))
	return m
}

func TestP18_1Open(t *testing.T) {
	for node := 1; node <= 5; node++ {
		for _, full := range []int{1, 16} {
			for _, length := range []int{1, 7, api.MaxTick} {
				m := torn()
				k, e := Open(node, table(), m, full, length)
				want(t, "Open", []any{e, k.Clock(), k.Leased(), k.List(), len(m.Bytes())}, []any{api.OK, 0, false, []store.Held(nil), 0})
			}
		}
	}
}

func TestP18_1Tick(t *testing.T) {
	for node := 1; node <= 5; node++ {
		k, _ := Open(node, table(), medium.New(), 4, 3)
		for clock := 1; clock < 50; clock++ {
			l := k.Tick()
			want(t, "Tick", l, []note.Note{{Kind: note.Beat, From: node, Tick: clock}})
			want(t, "behind it", []any{note.May(l[0]), k.Clock(), k.Leased()}, []any{true, clock, false})
		}
	}
}

// TestP18_1ALeaseIsFromTheTickThatItTells grants a lease at each clock, from each tick, and looks when it holds.
func TestP18_1ALeaseIsFromTheTickThatItTells(t *testing.T) {
	for _, length := range []int{1, 2, 3, 7} {
		for clock := range 6 {
			for from := range 9 {
				k := open(t, medium.New(), length)
				tick(k, clock)
				hears(t, k, granted(from, 1), nil)
				for now := clock; now < clock+12; now++ {
					holds := from >= 1 && from <= clock && from <= now && now < from+length
					if k.Leased() != holds || k.Clock() != now {
						t.Fatalf("%d ticks from %d on, granted at %d: at %d, %v", length, from, clock, now, k.Leased())
					}
					k.Tick()
				}
			}
		}
	}
}

func TestP18_1TheLongestLease(t *testing.T) {
	k := open(t, medium.New(), api.MaxTick)
	hears(t, k, granted(0, 1), nil)
	hears(t, k, granted(1, 1), nil)
	want(t, "ahead of a tick", k.Leased(), false)
	k.Tick()
	for _, from := range []int{0, 2, 1<<28 - 1} {
		hears(t, k, granted(from, 1), nil)
		want(t, "a tick that is not from 1 to the clock", k.Leased(), false)
	}
	hears(t, k, granted(1, 1<<28-1), nil)
	want(t, "granted", k.Leased(), true)
	tick(k, 5000)
	want(t, "behind 5000 ticks", k.Leased(), true)
}

// TestP18_1TheLaterLease: one of a greater epoch counts ahead of one that ends later.
func TestP18_1TheLaterLease(t *testing.T) {
	tests := []struct {
		what  string
		l     []note.Note
		until int // the first tick at which no lease holds; they are granted at 10, of 5 ticks
	}{
		{"one", []note.Note{granted(10, 3)}, 15},
		{"one that ends later", []note.Note{granted(7, 3), granted(9, 3)}, 14},
		{"one that ends sooner", []note.Note{granted(9, 3), granted(7, 3)}, 14},
		{"one of a greater epoch, that ends sooner", []note.Note{granted(10, 3), granted(7, 4)}, 12},
		{"one of a greater epoch, that has ended", []note.Note{granted(10, 3), granted(5, 4)}, 10},
		{"and one of the epoch ahead", []note.Note{granted(5, 4), granted(10, 3)}, 10},
		{"and one of its own epoch", []note.Note{granted(5, 4), granted(10, 3), granted(8, 4)}, 13},
		{"one of a lower epoch, that ends later", []note.Note{granted(7, 4), granted(10, 3)}, 12},
		{"the same one", []note.Note{granted(8, 3), granted(8, 3)}, 13},
		{"one that is not from 1 to the clock, of a greater epoch", []note.Note{granted(8, 3), granted(11, 9), granted(0, 9)}, 13},
	}
	for _, x := range tests {
		k := open(t, medium.New(), 5)
		tick(k, 10)
		for _, n := range x.l {
			hears(t, k, n, nil)
		}
		for now := 10; now < 20; now++ {
			if k.Leased() != (now < x.until) {
				t.Errorf("%s: at %d, %v", x.what, now, k.Leased())
			}
			k.Tick()
		}
	}
}

// TestP18_1TheAtlasEpochCounts: shards' own epochs do not.
func TestP18_1TheAtlasEpochCounts(t *testing.T) {
	k := open(t, medium.New(), 2)
	tick(k, 5)
	old := granted(5, 8)
	hears(t, k, old, nil)
	young := granted(1, 9)
	hears(t, k, young, nil)
	want(t, "of a greater epoch, but ended", k.Leased(), false)
	late := granted(5, 8)
	late.Atlas.L = []atlas.Shard{{Node: 2, Epoch: 8}}
	hears(t, k, late, nil)
	want(t, "of a lower epoch", k.Leased(), false)
}

func TestP18_1AskWithoutALease(t *testing.T) {
	asked := []api.Ask{
		aPut(0, 1, "a", "x"), aDelete(3, 9, "a"), aGet(1, 0, "a"), aPage(2, 1<<28-1, "", "", 3),
		{}, {Do: 5, Client: 1, Seq: 2}, {Do: 9}, aGet(1, 2, "\xff"), aGet(1, 3, strings.Repeat("a", 65)), aPut(1, 4, "a", strings.Repeat("x", 65)), aPage(1, 5, "", "", 0), aPage(1, 6, "", "", 17),
	}
	k, m := leased(t)
	hears(t, k, toInstall(all(), 1, recs("a", "b"), last(0, 1)), by(note.Done, all(), 1))
	hears(t, k, asks(aGet(0, 7, "a")), answers(api.Reply{Seq: 7, Found: true, Val: "va"}))
	tick(k, 1000)
	was, told := whole(k), m.Bytes()
	for _, a := range asked {
		hears(t, k, asks(a), refused(a))
		want(t, "behind it", []any{whole(k), m.Bytes()}, []any{was, told})
	}
	k = open(t, m, 3)
	was = whole(k)
	for _, a := range asked {
		hears(t, k, asks(a), refused(a))
		want(t, "behind it", []any{whole(k), m.Bytes()}, []any{was, told})
	}
}

func TestP18_1AskWithALease(t *testing.T) {
	k, m := leased(t)
	hears(t, k, toInstall(keys("", "m"), 1, recs("b"), last(3, 5)), by(note.Done, keys("", "m"), 1))
	long, late := strings.Repeat("a", 65), last(3, 5).Reply
	steps := []struct {
		a api.Ask
		r api.Reply
	}{
		{aPut(1, 1, "é", "x"), api.Reply{}},
		{aPut(1, 1, "é", "x"), api.Reply{}},
		{aPut(1, 1, "b", "other"), api.Reply{}},
		{aGet(2, 1, "e\u0301"), api.Reply{Found: true, Val: "x"}},
		{aGet(2, 2, "e"), api.Reply{}},
		{aPut(1, 2, "e\u0301", "y"), api.Reply{Found: true}},
		{aPage(2, 3, "", "", 1), api.Reply{L: recs("b"), Next: key("é"), More: true}},
		{aPage(2, 4, key("c"), key("z"), 9), api.Reply{L: []api.Record{{Text: "e\u0301", Val: "y"}}, Next: key("m"), More: true}},
		{aDelete(1, 3, "b"), api.Reply{Found: true}},
		{aDelete(1, 3, "b"), api.Reply{Found: true}},
		{aDelete(1, 4, "b"), api.Reply{}},
		{aDelete(3, 5, "é"), late},
		{aPut(0, 0, "a", ""), api.Reply{}},
		{aPut(0, 1, "b", ""), api.Reply{}},
		{aPut(0, 2, "c", ""), api.Reply{}},
		{aPut(0, 3, "d", ""), api.Reply{Err: api.ErrFull}},
		{aPut(0, 4, "c", "z"), api.Reply{Found: true}},
		{aGet(2, 5, "n"), api.Reply{Err: api.ErrEpoch}},
		{aPut(0, 5, "m", ""), api.Reply{Err: api.ErrEpoch}},
		{aDelete(0, 5, "z"), api.Reply{Err: api.ErrEpoch}},
		{aPage(0, 5, key("m"), "", 3), api.Reply{Err: api.ErrEpoch}},
		{aGet(2, 5, "\xff"), api.Reply{Err: api.ErrText}},
		{aGet(2, 5, long), api.Reply{Err: api.ErrLong}},
		{aPut(2, 5, "z", long), api.Reply{Err: api.ErrLong}},
		{aPage(2, 5, key("m"), "", 0), api.Reply{Err: api.ErrArg}},
		{aPage(2, 5, "", "", 17), api.Reply{Err: api.ErrArg}},
		{api.Ask{Client: 2, Seq: 5, Text: "a"}, api.Reply{Err: api.ErrArg}},
		{api.Ask{Do: 5, Client: 2, Seq: 5, Text: "a"}, api.Reply{Err: api.ErrArg}},
	}
	for _, x := range steps {
		x.r.Client, x.r.Seq = x.a.Client, x.a.Seq
		hears(t, k, asks(x.a), answers(x.r))
		want(t, "Loose", m.Loose(), 0)
	}
	for _, a := range []api.Ask{aPut(1, 3, "f", "x"), aPut(1, 0, "f", "x"), aDelete(3, 4, "c")} {
		hears(t, k, asks(a), nil) // the client has an answer to a later one
	}
	hears(t, k, to(note.Freeze, keys("", "m"), 1), bundles(keys("", "m"), 1, []api.Record{{Text: "a"}, {Text: "b"}, {Text: "c", Val: "z"}, {Text: "e\u0301", Val: "y"}},
		once.Last{Seq: 4, Reply: api.Reply{Seq: 4, Found: true}}, once.Last{Seq: 4, Reply: api.Reply{Client: 1, Seq: 4}}, last(3, 5)))
	for _, a := range []api.Ask{aPut(1, 4, "b", "x"), aPut(1, 9, "b", "x"), aDelete(1, 0, "b"), aGet(2, 9, "b"), aPage(2, 9, "", "", 9)} {
		hears(t, k, asks(a), refused(a)) // it is frozen, whatever it knows
	}
}

// TestP18_1WhoAskedIsAnswered: whose ask it is does not matter.
func TestP18_1WhoAskedIsAnswered(t *testing.T) {
	k, _ := leased(t)
	ask := func(from int) note.Note {
		return note.Note{Kind: note.Ask, From: from, To: 2, Ask: aGet(1, 4, "a")}
	}
	for _, e := range []api.Errno{api.ErrEpoch, api.OK} {
		for _, from := range []int{0, 1, 3, 4, 5, 100, 101, 102, 103} {
			hears(t, k, ask(from), []note.Note{{Kind: note.Reply, From: 2, To: from, Reply: api.Reply{Client: 1, Seq: 4, Err: e}}})
		}
		hears(t, k, toInstall(all(), 1, nil), by(note.Done, all(), 1))
	}
}

// TestP18_1AsksOfNoClient have numbers that a note may tell, but no client has.
func TestP18_1AsksOfNoClient(t *testing.T) {
	k, _ := leased(t)
	a := aGet(4, 1, "a")
	n := note.Note{Kind: note.Ask, From: 100, To: 2, Ask: a}
	reply := func(e api.Errno) []note.Note {
		return []note.Note{{Kind: note.Reply, From: 2, To: 100, Reply: api.Reply{Client: 4, Seq: 1, Err: e}}}
	}
	hears(t, k, n, reply(api.ErrArg))
	tick(k, 1000)
	hears(t, k, n, reply(api.ErrEpoch))
}

// TestP18_1SpansComeAndGo has each of Install, Freeze, Forget in each state, with a lease and without one.
func TestP18_1SpansComeAndGo(t *testing.T) {
	for _, with := range []bool{false, true} {
		m := medium.New()
		k := open(t, m, 1000)
		if with {
			lend(t, k)
		}
		low, high := keys("", "m"), keys("m", "")
		l, x := recs("é", "a"), last(1, 2)
		sorted := recs("a", "é")
		held := func(what string, h ...store.Held) {
			t.Helper()
			want(t, what, []any{k.List(), k.Leased(), m.Loose()}, []any{h, with, 0})
		}
		held("nothing")
		hears(t, k, to(note.Freeze, low, 3), nil)
		hears(t, k, to(note.Forget, low, 3), by(note.Gone, low, 3))
		held("still nothing")
		hears(t, k, toInstall(low, 3, l, x), by(note.Done, low, 3))
		held("a span", store.Held{Span: low, Epoch: 3, Many: 2})
		hears(t, k, toInstall(low, 3, nil), by(note.Done, low, 3))
		hears(t, k, toInstall(low, 4, nil), nil)
		hears(t, k, toInstall(all(), 4, nil), nil)
		hears(t, k, to(note.Forget, low, 3), nil)
		hears(t, k, to(note.Forget, low, 2), by(note.Gone, low, 2))
		hears(t, k, to(note.Forget, all(), 3), by(note.Gone, all(), 3))
		hears(t, k, to(note.Freeze, low, 4), nil)
		hears(t, k, to(note.Freeze, all(), 3), nil)
		hears(t, k, to(note.Freeze, high, 3), nil)
		held("as it was", store.Held{Span: low, Epoch: 3, Many: 2})
		hears(t, k, toInstall(high, 2, nil), by(note.Done, high, 2))
		held("two spans", store.Held{Span: low, Epoch: 3, Many: 2}, store.Held{Span: high, Epoch: 2})
		for range 3 {
			hears(t, k, to(note.Freeze, low, 3), bundles(low, 3, sorted, x))
			held("one is frozen", store.Held{Span: low, Epoch: 3, Many: 2, Frozen: true}, store.Held{Span: high, Epoch: 2})
		}
		hears(t, k, toInstall(low, 3, nil), by(note.Done, low, 3))
		held("it is frozen yet", store.Held{Span: low, Epoch: 3, Many: 2, Frozen: true}, store.Held{Span: high, Epoch: 2})
		for range 3 {
			hears(t, k, to(note.Forget, low, 3), by(note.Gone, low, 3))
			held("one is forgotten", store.Held{Span: high, Epoch: 2})
		}
		hears(t, k, to(note.Freeze, low, 3), nil)
		hears(t, k, toInstall(low, 3, nil), nil)
		hears(t, k, toInstall(low, 2, nil), nil)
		held("too late", store.Held{Span: high, Epoch: 2})
		hears(t, k, toInstall(low, 4, nil), by(note.Done, low, 4))
		hears(t, k, to(note.Freeze, high, 2), bundles(high, 2, nil))
		held("it came again", store.Held{Span: low, Epoch: 4}, store.Held{Span: high, Epoch: 2, Frozen: true})
	}
}

func TestP18_1WhatMayNotBeInstalled(t *testing.T) {
	k, m := leased(t)
	was, told := whole(k), m.Bytes()
	for _, n := range []note.Note{
		toInstall(all(), 0, nil), toInstall(keys("b", "a"), 1, nil), toInstall(keys("b", "b"), 1, nil),
		toInstall(all(), 1, []api.Record{{Text: "\xff"}}), toInstall(all(), 1, recs(strings.Repeat("a", 65))), toInstall(all(), 1, []api.Record{{Text: "a", Val: strings.Repeat("v", 65)}}),
		toInstall(keys("b", "d"), 1, recs("a")), toInstall(keys("b", "d"), 1, recs("d")), toInstall(all(), 1, recs("é", "e\u0301")),
		toInstall(all(), 1, nil, once.Last{Seq: 2, Reply: api.Reply{Seq: 3}}),
	} {
		want(t, "May", note.May(n), true)
		hears(t, k, n, nil)
		want(t, "behind it", []any{whole(k), m.Bytes()}, []any{was, told})
	}
	hears(t, k, toInstall(all(), 1, recs("é", "e")), by(note.Done, all(), 1))
}

// TestP18_1TheSeatIsTold: who sent such a note does not matter.
func TestP18_1TheSeatIsTold(t *testing.T) {
	for _, from := range []int{0, 1, 5, 100, 103} {
		k, _ := leased(t)
		sent := func(n note.Note) note.Note {
			n.From = from
			return n
		}
		hears(t, k, sent(toInstall(all(), 1, nil)), by(note.Done, all(), 1))
		hears(t, k, sent(to(note.Freeze, all(), 1)), bundles(all(), 1, nil))
		hears(t, k, sent(to(note.Forget, all(), 1)), by(note.Gone, all(), 1))
	}
}

func TestP18_1WhatMayNotBeOrIsForOthers(t *testing.T) {
	m := medium.New()
	k := open(t, m, 5)
	tick(k, 3)
	hears(t, k, toInstall(keys("", "m"), 1, recs("a")), by(note.Done, keys("", "m"), 1))
	was, told := whole(k), m.Bytes()
	good := []note.Note{asks(aGet(1, 1, "a")), granted(2, 1), to(note.Freeze, keys("", "m"), 1), toInstall(keys("m", ""), 1, recs("n")), to(note.Forget, keys("", "a"), 1)}
	for _, n := range good {
		for _, spoil := range []func(n *note.Note){
			func(n *note.Note) { n.To = 1 },
			func(n *note.Note) { n.To = 3 },
			func(n *note.Note) { n.From, n.To = 1, 0 },
			func(n *note.Note) { n.To = 102 },
			func(n *note.Note) { n.From = 2 },
			func(n *note.Note) { n.From = 6 },
			func(n *note.Note) { n.From = -1 },
			func(n *note.Note) { n.From = 104 },
			func(n *note.Note) { n.Kind = 0 },
			func(n *note.Note) { n.Kind = 13 },
			func(n *note.Note) { n.Kind = -n.Kind },
			func(n *note.Note) { n.Epoch = -1 },
			func(n *note.Note) { n.Epoch = 1 << 28 },
			func(n *note.Note) { n.Tick = -1 },
			func(n *note.Note) { n.Tick = 1 << 28 },
			func(n *note.Note) { n.Reply.Seq = 1 },
			func(n *note.Note) { n.Ask.Seq = -1 },
			func(n *note.Note) { n.Ask.Val = strings.Repeat("x", api.MaxFrame) },
			func(n *note.Note) { n.Atlas = atlas.Atlas{Epoch: 1} },
			func(n *note.Note) { n.Last = []once.Last{{Seq: -1, Reply: api.Reply{Seq: -1}}} },
		} {
			n := n
			spoil(&n)
			hears(t, k, n, nil)
			want(t, fmt.Sprintf("behind %+v", n), []any{whole(k), m.Bytes()}, []any{was, told})
		}
	}
	for _, n := range []note.Note{
		{}, {Kind: note.Reply, From: 100, To: 2}, {Kind: note.Where, From: 100, To: 2}, {Kind: note.Map, To: 2, Atlas: atlas.First(2)}, {Kind: note.Beat, From: 1, To: 2, Tick: 2},
		{Kind: note.Bundle, From: 1, To: 2, Span: keys("", "m"), Epoch: 1, L: recs("b")}, to(note.Bundle, keys("m", ""), 2), to(note.Done, keys("", "m"), 1), to(note.Gone, keys("", "m"), 1),
	} {
		hears(t, k, n, nil)
		want(t, fmt.Sprintf("behind %+v", n), []any{whole(k), m.Bytes()}, []any{was, told})
	}
	for i, n := range good {
		if l := k.Hear(n); len(l) != 1 && i != 1 || whole(k) == was && i == 1 {
			t.Errorf("%+v: %+v", n, l)
		}
	}
}

// TestP18_2OpenedAnew: what it held is there, but it serves nothing till a Grant of its new clock came.
func TestP18_2OpenedAnew(t *testing.T) {
	k, m := leased(t)
	tick(k, 6)
	hears(t, k, toInstall(all(), 1, recs("a")), by(note.Done, all(), 1))
	hears(t, k, asks(aPut(1, 7, "b", "x")), answers(api.Reply{Client: 1, Seq: 7}))
	late := granted(7, 5)
	k = open(t, m, 3)
	want(t, "opened anew", []any{k.Clock(), k.Leased(), k.List()}, []any{0, false, []store.Held{{Epoch: 1, Many: 2}}})
	get, put := aGet(2, 1, "b"), aPut(1, 7, "b", "x")
	silent := func() {
		t.Helper()
		want(t, "Leased", k.Leased(), false)
		for _, a := range []api.Ask{get, put, aPut(1, 8, "c", "y"), aDelete(3, 1, "a"), aPage(0, 3, "", "", 2), {}, aGet(0, 1, "\xff")} {
			hears(t, k, asks(a), refused(a))
		}
	}
	silent()
	for range 3 {
		hears(t, k, late, nil)
		silent()
		hears(t, k, granted(0, 5), nil)
		silent()
		hears(t, k, granted(k.Clock()+1, 5), nil)
		silent()
		hears(t, k, toInstall(all(), 1, nil), by(note.Done, all(), 1))
		silent()
		hears(t, k, note.Note{Kind: note.Map, To: 2, Atlas: atlas.First(2)}, nil)
		silent()
		k.Tick()
		silent()
	}
	hears(t, k, granted(1, 1), nil)
	want(t, "ended ahead of 4", k.Leased(), true)
	hears(t, k, asks(get), answers(api.Reply{Client: 2, Seq: 1, Found: true, Val: "x"}))
	hears(t, k, asks(put), answers(api.Reply{Client: 1, Seq: 7}))
	hears(t, k, asks(aPut(1, 6, "b", "z")), nil)
	k.Tick()
	silent()
}

// TestP18_2ACrashAtEachByte tears what a step writes at each byte: the node is then as it was ahead of the step, or behind it, and what is told again comes out the same.
func TestP18_2ACrashAtEachByte(t *testing.T) {
	k, m := leased(t)
	great := last(2, 2)
	great.Reply.Val = strings.Repeat("v", 20000) // more than one frame
	steps := []note.Note{
		toInstall(keys("", "m"), 1, recs("a", "b"), last(0, 3)), asks(aPut(0, 4, "é", "x")), asks(aDelete(1, 1, "a")), asks(aPut(0, 5, "c", "y")), asks(aPut(0, 6, "d", "y")), asks(aPut(0, 7, "f", "y")),
		toInstall(keys("m", ""), 2, nil, great), to(note.Freeze, keys("", "m"), 1), to(note.Forget, keys("", "m"), 1),
	}
	for _, n := range steps {
		before, was := m.Bytes(), k.List()
		l := k.Hear(n)
		after, now := m.Bytes(), k.List()
		if len(l) != 1 || m.Loose() != 0 || len(after) <= len(before) || !bytes.HasPrefix(after, before) {
			t.Fatalf("%+v: %+v; from %d to %d bytes", n, l, len(before), len(after))
		}
		for at := len(before); at <= len(after); at++ {
			if len(after)-len(before) > 5000 && at%97 > 0 && at < len(after)-9 {
				continue
			}
			torn := medium.New()
			torn.Swap(before)
			torn.Append(after[len(before):])
			torn.Crash(at - len(before))
			k := open(t, torn, 9)
			then := was
			if at == len(after) {
				then = now
			}
			want(t, fmt.Sprintf("%+v, %d bytes", n, at-len(before)), []any{k.List(), k.Clock(), k.Leased()}, []any{then, 0, false})
			if n.Kind == note.Ask {
				hears(t, k, n, refused(n.Ask))
			}
			lend(t, k)
			want(t, "told again", k.Hear(n), l)
			want(t, "behind it", k.List(), now)
		}
	}
}

func TestR1GreatThings(t *testing.T) {
	k, m := leased(t)
	long := api.Span{From: strings.Repeat("a", 100000), To: strings.Repeat("b", 100000)}
	var many []api.Record
	for i := range 5000 {
		many = append(many, api.Record{Text: string([]byte{byte('a' + i/676%26), byte('a' + i/26%26), byte('a' + i%26)}), Val: strings.Repeat("v", 60)})
	}
	x := last(2, 7)
	x.Reply.Val = strings.Repeat("w", 30000)
	hears(t, k, toInstall(keys("a", ""), 1, many, x), by(note.Done, keys("a", ""), 1))
	hears(t, k, to(note.Freeze, keys("a", ""), 1), bundles(keys("a", ""), 1, many, x))
	hears(t, k, toInstall(long, 1, nil), nil)
	hears(t, k, to(note.Forget, keys("a", ""), 1), by(note.Gone, keys("a", ""), 1))
	hears(t, k, toInstall(long, 2, nil), by(note.Done, long, 2))
	k = open(t, m, 1)
	want(t, "opened anew", k.List(), []store.Held{{Span: long, Epoch: 2}})
	hears(t, k, to(note.Freeze, long, 2), bundles(long, 2, nil))
	behind := api.Span{From: long.To}
	hears(t, k, toInstall(behind, 1<<28-1, nil), by(note.Done, behind, 1<<28-1))
}

func TestR4WhatIsHandedInStaysAndIsNotKept(t *testing.T) {
	tab := table()
	k, _ := Open(2, tab, medium.New(), 4, 1000)
	lend(t, k)
	for i := range tab.Rows {
		clear(tab.Rows[i].Of)
		clear(tab.Rows[i].To)
	}
	for i := range tab.Lore {
		clear(tab.Lore[i].To)
	}
	clear(tab.Rows)
	clear(tab.Lore)
	n := toInstall(all(), 1, recs("é", "a", "spare")[:2], last(1, 1), last(2, 2), last(3, 3))
	n.Last[0].Reply.L = recs("x", "y", "spare")[:2]
	n.Last = n.Last[:2]
	hears(t, k, n, by(note.Done, all(), 1))
	first := last(1, 1)
	first.Reply.L = recs("x", "y")
	want(t, "what was handed in", []any{n.L[:3], n.Last[:3], n.Last[0].Reply.L[:3]}, []any{recs("é", "a", "spare"), []once.Last{{Seq: 1, Reply: n.Last[0].Reply}, last(2, 2), last(3, 3)}, recs("x", "y", "spare")})
	clear(n.L[:3])
	clear(n.Last[0].Reply.L[:3])
	clear(n.Last[:3])
	g := granted(1, 9)
	g.Atlas.L = append(make([]atlas.Shard, 0, 2), g.Atlas.L...)
	hears(t, k, g, nil)
	want(t, "what was handed in", g.Atlas.L[:2], []atlas.Shard{{Node: 1, Epoch: 1}, {}})
	clear(g.Atlas.L)
	want(t, "Leased", k.Leased(), true)
	hears(t, k, asks(aPut(1, 1, "b", "x")), answers(first.Reply))
	hears(t, k, asks(aGet(0, 1, "e\u0301")), answers(api.Reply{Seq: 1, Found: true, Val: "vé"}))
	hears(t, k, to(note.Freeze, all(), 1), bundles(all(), 1, recs("a", "é"), first, last(2, 2)))
}

func TestR4WhatIsAnsweredIsNewMemory(t *testing.T) {
	k, _ := leased(t)
	hears(t, k, toInstall(all(), 1, recs("a", "b"), last(1, 1), last(2, 2)), by(note.Done, all(), 1))
	spoil := func(l []note.Note) {
		for _, n := range l {
			clear(n.L[:cap(n.L)])
			for _, x := range n.Last {
				clear(x.Reply.L[:cap(x.Reply.L)])
			}
			clear(n.Last[:cap(n.Last)])
			clear(n.Reply.L[:cap(n.Reply.L)])
		}
		clear(l[:cap(l)])
	}
	page := func() []note.Note { return k.Hear(asks(aPage(0, 1, "", "", 9))) }
	again := func() []note.Note { return k.Hear(asks(aPut(1, 1, "c", "x"))) }
	freeze := func() []note.Note { return k.Hear(to(note.Freeze, all(), 1)) }
	for _, x := range []struct {
		call func() []note.Note
		want []note.Note
	}{
		{page, answers(api.Reply{Seq: 1, L: recs("a", "b")})}, {again, answers(last(1, 1).Reply)}, {freeze, bundles(all(), 1, recs("a", "b"), last(1, 1), last(2, 2))},
	} {
		for range 2 {
			l := x.call()
			want(t, "an answer", l, x.want)
			spoil(l)
		}
	}
	spoil(k.Tick())
	l := k.List()
	clear(l[:cap(l)])
	want(t, "List", k.List(), []store.Held{{Epoch: 1, Many: 2, Frozen: true}})
}

func TestR7NilAndZeroKeeper(t *testing.T) {
	var none *Keeper
	for _, k := range []*Keeper{none, {}} {
		for _, n := range []note.Note{asks(aGet(1, 1, "a")), granted(1, 1), toInstall(all(), 1, nil), to(note.Freeze, all(), 1), to(note.Forget, all(), 1)} {
			for _, party := range []int{0, 2} {
				n.From, n.To = 100, party
				want(t, "Hear", k.Hear(n), []note.Note(nil))
			}
		}
		want(t, "others", []any{k.Tick(), k.Leased(), k.List(), k.Clock()}, []any{[]note.Note(nil), false, []store.Held(nil), 0})
	}
}

// TestP18_1NodesAreApart has nodes of other numbers, rooms and lengths.
func TestP18_1NodesAreApart(t *testing.T) {
	var nodes []*Keeper
	for i := 1; i <= 5; i++ {
		k, _ := Open(i, table(), medium.New(), i, i)
		tick(k, 10)
		nodes = append(nodes, k)
	}
	for i, k := range nodes {
		node, room := i+1, i+1
		n := granted(10, 1)
		n.To = node
		for j, other := range nodes {
			want(t, "Grant", other.Hear(n), []note.Note(nil))
			want(t, "Leased", other.Leased(), j <= i)
		}
		in := toInstall(all(), 1, recs("a", "b", "c", "d")[:room-1])
		in.To = node
		want(t, "Install", k.Hear(in), []note.Note{{Kind: note.Done, From: node, Epoch: 1}})
		for j, e := range []api.Errno{api.OK, api.ErrFull} {
			a := asks(aPut(3, j, []string{"x", "y"}[j], ""))
			a.To = node
			want(t, "a put", k.Hear(a), []note.Note{{Kind: note.Reply, From: node, To: 103, Reply: api.Reply{Client: 3, Seq: j, Err: e}}})
		}
	}
	for i, k := range nodes {
		tick(k, i)
		want(t, "at its last tick", k.Leased(), true)
		tick(k, 1)
		want(t, "behind it", k.Leased(), false)
	}
}
