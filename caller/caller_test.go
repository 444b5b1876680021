package caller

import (
	"fmt"
	"math"
	"slices"
	"strings"
	"testing"

	"gazetteer/api"
	"gazetteer/atlas"
	"gazetteer/note"
)

func ExampleNew() {
	c, _ := New(0, api.Table{}, 3, 4)
	l, e := c.Ask(api.Ask{Do: 3, Text: "a"})
	for _, n := range l {
		fmt.Println(e, n.Kind == note.Where, n.From, n.To)
	}
	// Output: ok true 100 0
}

func TestP19_1NewOfWhatMayNotBe(t *testing.T) {
	for _, x := range []struct {
		what         string
		client       int
		table        api.Table
		every, tries int
		e            api.Errno
	}{
		{"client 4", 4, table(), 3, 4, api.ErrArg},
		{"a client below 0", -1, table(), 3, 4, api.ErrArg},
		{"a party's number", 100, table(), 3, 4, api.ErrArg},
		{"the least client", math.MinInt, table(), 3, 4, api.ErrArg},
		{"the greatest client", math.MaxInt, table(), 3, 4, api.ErrArg},
		{"every 0", 1, table(), 0, 4, api.ErrArg},
		{"every below 0", 1, table(), -1, 4, api.ErrArg},
		{"every 1001", 1, table(), 1001, 4, api.ErrArg},
		{"the least every", 1, table(), math.MinInt, 4, api.ErrArg},
		{"the greatest every", 1, table(), math.MaxInt, 4, api.ErrArg},
		{"no tries", 1, table(), 3, 0, api.ErrArg},
		{"tries below 0", 1, table(), 3, -1, api.ErrArg},
		{"tries 1001", 1, table(), 3, 1001, api.ErrArg},
		{"the least tries", 1, table(), 3, math.MinInt, api.ErrArg},
		{"the greatest tries", 1, table(), 3, math.MaxInt, api.ErrArg},
		{"a table that may not be", 1, badTable(), 3, 4, api.ErrTable},
		{"it, and client 4", 4, badTable(), 3, 4, api.ErrTable},
		{"it, and every 0", 1, badTable(), 0, 4, api.ErrTable},
		{"it, and no tries", 1, badTable(), 3, 0, api.ErrTable},
	} {
		if c, e := New(x.client, x.table, x.every, x.tries); c != nil || e != x.e {
			t.Errorf("%s: %v, %v, want %v", x.what, c, e, x.e)
		}
	}
}

// TestP19_1New has each client, and every and tries at their bounds.
func TestP19_1New(t *testing.T) {
	for client := range api.MaxClients {
		for _, every := range []int{1, 2, 1000} {
			for _, tries := range []int{1, 2, 1000} {
				c, e := New(client, table(), every, tries)
				want(t, "New", []any{e, c.Open(), c.Answers(), c.Tick()}, []any{api.OK, false, []api.Reply(nil), silent})
				l, e := c.Ask(aGet("a"))
				want(t, "Ask", []any{l, e}, []any{[]note.Note{{Kind: note.Where, From: 100 + client}}, api.OK})
				l = c.Hear(note.Note{Kind: note.Map, To: 100 + client, Atlas: only(3, 1)})
				want(t, "Map", l, []note.Note{{Kind: note.Ask, From: 100 + client, To: 3, Ask: api.Ask{Do: 3, Client: client, Seq: 1, Text: "a"}}})
			}
		}
	}
}

// TestP19_1SentToWhoHasItsKey asks at and beside each cut of an atlas.
func TestP19_1SentToWhoHasItsKey(t *testing.T) {
	cuts := []string{key("b"), key("d"), key("e\u0301"), key("f")}
	c := told(t, at(7, cuts...))
	seq := 0
	ask := func(node int, a api.Ask) {
		t.Helper()
		seq++
		asks(t, c, a, sent(node, seq, a))
		hears(t, c, replied(done(seq)), silent)
	}
	for _, x := range []struct {
		text string
		node int
	}{
		{"", 1}, {"\u00ad", 1}, {"a", 1}, {"azzz", 1}, {"b", 2}, {"\u00adb", 2}, {"ba", 2}, {"c", 2}, {"d", 3}, {"e", 3}, {"ea", 4}, {"é", 4}, {"e\u0301", 4}, {"éa", 4}, {"f", 5}, {"zz", 5}, {"\U0010ffff", 5},
	} {
		ask(x.node, aPut(x.text, "v"))
		ask(x.node, aDelete(x.text))
		ask(x.node, aGet(x.text))
		for _, to := range []string{"", key("a"), key("c"), key("z"), "\xff"} {
			ask(x.node, aPage(key(x.text), to, 3))
		}
	}
	for i, k := range cuts {
		ask(i+2, aPage(k, "", 1))
		ask(i+2, aPage(k+"\x00", "", 1))
		ask(i+1, aPage(k[:len(k)-1], "", 1))
	}
	ask(1, aPage("", "", 1))
	ask(5, aPage("\xff\xff", "", 1)) // no key need be one of a text
	ask(2, aPage("\x00\x0b\x01", "", 1))
}

// TestP19_1WhatIsSet: Client, Seq and the Limit of what is no page are the caller's to set, all else is sent as it is.
func TestP19_1WhatIsSet(t *testing.T) {
	c := told(t, only(4, 1))
	seq := 0
	for _, n := range []int{0, 1, 2, -1, 7, 16, 17, 1 << 28, math.MinInt, math.MaxInt} {
		for do := 1; do <= 4; do++ {
			a := api.Ask{Do: do, Client: n, Seq: n, Text: "é", Val: "x", From: "f", To: "t", Limit: n}
			if do == 4 {
				a.Limit = 1 + seq%16
			}
			b := a
			if do < 4 {
				b.Limit = 0
			}
			seq++
			asks(t, c, a, sent(4, seq, b))
			hears(t, c, replied(failed(seq, api.Errno(seq%9))), silent)
		}
	}
}

func TestP19_1NumbersOneBehindTheOther(t *testing.T) {
	c := told(t, only(4, 1))
	for seq := 1; seq <= 300; seq++ {
		refuses(t, c, aGet("\xff"), api.ErrText)
		asks(t, c, aGet("a"), sent(4, seq, aGet("a")))
		refuses(t, c, aGet("a"), api.ErrBusy)
		if seq%3 > 0 {
			hears(t, c, replied(done(seq)), silent)
		} else {
			ticks(t, c, 3, sent(4, seq, aGet("a")))
			ticks(t, c, 3, sent(4, seq, aGet("a")))
			ticks(t, c, 3, sent(4, seq, aGet("a")))
			ticks(t, c, 3, silent) // it is given up
		}
		want(t, "Open", []any{c.Open(), len(c.Answers())}, []any{false, seq})
	}
}

// refusals are asks that are refused where none is open, of several errors by the one that is named first.
func refusals() map[api.Errno][]api.Ask {
	long, deep, heavy := strings.Repeat("a", api.MaxText+1), strings.Repeat("k", api.MaxKey+1), strings.Repeat("\u00e6", 26)+"a\u0301\u0301"
	return map[api.Errno][]api.Ask{
		api.ErrArg: {
			{}, {Do: -1, Text: "a"}, {Do: 5, Text: "a"}, {Do: 5, Limit: 3}, {Do: math.MinInt}, {Do: math.MaxInt}, {Do: 0, Text: "\xff"}, {Do: 5, Text: long, Val: long, From: deep},
			aPage("", "", 0), aPage("", "", 17), aPage("", "", -1), aPage("", "", math.MinInt), aPage("", "", math.MaxInt), aPage(deep, "", 0), aPage("", deep, 17),
		},
		api.ErrText: {
			aPut("\xff", "x"), aDelete("a\xff"), aGet("\xc3"), aGet("\xed\xa0\x80"), aGet("\xf4\x90\x80\x80"), aPut("\xff", long), aPut("\xff"+long[2:], long),
		},
		api.ErrLong: {
			aPut(long, "x"), aDelete(long), aGet(long), aPut(long+"\xff", "x"), aGet("\xff" + long), aPut(long, long), aGet(strings.Repeat("a", 100000)),
			aPut(heavy, "x"), aDelete(heavy), aGet(heavy), aPut(heavy, long),
			aPut("a", long), aPut("", strings.Repeat("x", 100000)), aPut("a", strings.Repeat("\xff", 65)),
			aPage(deep, "", 1), aPage("", deep, 16), aPage(deep, deep, 3), aPage(strings.Repeat("k", 100000), "", 3), aPage("", strings.Repeat("k", 100000), 3),
		},
	}
}

func TestP19_1WhatIsRefused(t *testing.T) {
	for _, c := range []*Caller{begin(t, 3, 4), told(t, only(4, 1))} {
		for e, l := range refusals() {
			for _, a := range l {
				refuses(t, c, a, e)
			}
		}
		c.Hear(mapped(only(4, 1)))
		asks(t, c, aGet("a"), sent(4, 1, aGet("a"))) // no number was used
		for _, l := range refusals() {
			for _, a := range l {
				refuses(t, c, a, api.ErrBusy)
			}
		}
		for _, a := range []api.Ask{aGet("a"), aPut("b", "x"), aDelete("c"), aPage("", "", 3)} {
			refuses(t, c, a, api.ErrBusy)
		}
		ticks(t, c, 3, sent(4, 1, aGet("a")))
		hears(t, c, replied(done(1)), silent)
		for e, l := range refusals() {
			for _, a := range l {
				refuses(t, c, a, e)
			}
		}
		asks(t, c, aGet("b"), sent(4, 2, aGet("b")))
	}
}

// TestP19_1AtTheLimits asks what is just as long as it may be.
func TestP19_1AtTheLimits(t *testing.T) {
	long, deep := strings.Repeat("a", api.MaxText), strings.Repeat("k", api.MaxKey)
	heavy := strings.Repeat("\u00e6", 26) + "a\u0301"
	want(t, "how long a heavy text's key is", len(key(heavy)), api.MaxKey)
	c := told(t, only(4, 1))
	for i, a := range []api.Ask{
		aPut(long, long), aDelete(long), aGet(long), aPut("", ""), aDelete(""), aGet(""), aPut("a", strings.Repeat("\xff", 64)), aPut(strings.Repeat("\u0301", 32), ""),
		aPut(heavy, ""), aDelete(heavy), aGet(heavy),
		aPage(deep, deep, 16), aPage(deep, "", 1), aPage("", deep, 1), aPage("", "", 1), aPage("", "", 16),
		aPage("b", "a", 3), aPage("a", "a", 3), aPage("\xff", "\x00", 3), // nothing is in it
	} {
		asks(t, c, a, sent(4, i+1, a))
		hears(t, c, replied(done(i+1)), silent)
	}
}

// TestP19_1WhatIsNotAsked: what is no part of such an ask may be anything.
func TestP19_1WhatIsNotAsked(t *testing.T) {
	long, deep := strings.Repeat("x", api.MaxVal+1), strings.Repeat("k", api.MaxKey+1)
	c := told(t, at(1, key("m")))
	for i, x := range []struct {
		node int
		a    api.Ask
	}{
		{1, api.Ask{Do: 4, Text: "\xff", Val: long, Limit: 3}},
		{1, api.Ask{Do: 4, Text: "z", Limit: 3}},
		{2, api.Ask{Do: 4, Text: strings.Repeat("a", 65), From: key("n"), Limit: 3}},
		{1, api.Ask{Do: 1, Text: "a", From: deep, To: deep}},
		{2, api.Ask{Do: 2, Text: "n", Val: long, From: deep, To: deep}},
		{2, api.Ask{Do: 3, Text: "n", Val: long, From: key("a"), To: deep}},
		{1, api.Ask{Do: 3, Text: "a", Val: "\xff", From: key("z")}},
	} {
		asks(t, c, x.a, sent(x.node, i+1, x.a))
		ticks(t, c, 3, sent(x.node, i+1, x.a))
		hears(t, c, replied(done(i+1)), silent)
	}
}

// TestP19_1WhatANoteHasNoRoomFor is left out, where it is no part of such an ask.
func TestP19_1WhatANoteHasNoRoomFor(t *testing.T) {
	huge := strings.Repeat("x", api.MaxFrame)
	c := told(t, only(4, 1))
	seq := 0
	for _, x := range []struct{ a, want api.Ask }{
		{api.Ask{Do: 1, Text: "a", Val: "v", From: huge}, aPut("a", "v")},
		{api.Ask{Do: 1, Text: "a", Val: "v", From: "f", To: huge}, aPut("a", "v")},
		{api.Ask{Do: 2, Text: "a", Val: huge}, aDelete("a")},
		{api.Ask{Do: 2, Text: "a", From: huge, To: huge}, aDelete("a")},
		{api.Ask{Do: 3, Text: "a", Val: huge, Limit: -1}, aGet("a")},
		{api.Ask{Do: 3, Text: "a", To: huge}, aGet("a")},
		{api.Ask{Do: 4, Text: huge, From: "f", To: "t", Limit: 9}, aPage("f", "t", 9)},
		{api.Ask{Do: 4, Val: huge, From: "f", To: "t", Limit: 9}, aPage("f", "t", 9)},
	} {
		seq++
		asks(t, c, x.a, sent(4, seq, x.want))
		ticks(t, c, 3, sent(4, seq, x.want))
		hears(t, c, replied(done(seq)), silent)
	}
	for _, spare := range []int{0, 1} { // four numbers and four lengths have 32 bytes
		a := api.Ask{Do: 3, Text: "a", Val: huge[:api.MaxFrame-33+spare]}
		b := a
		if spare > 0 {
			b.Val = ""
		}
		seq++
		asks(t, c, a, sent(4, seq, b))
		hears(t, c, replied(done(seq)), silent)
	}
}

func TestP19_1WithoutAnAtlas(t *testing.T) {
	for _, a := range []api.Ask{aPut("a", "x"), aDelete("a"), aGet("a"), aPage(key("a"), "", 3)} {
		c := begin(t, 3, 4)
		asks(t, c, a, where())
		refuses(t, c, a, api.ErrBusy)
		ticks(t, c, 3, where())
		ticks(t, c, 3, where())
		hears(t, c, mapped(at(3, key("a"))), sent(2, 1, a))
		ticks(t, c, 3, sent(2, 1, a))
		ticks(t, c, 3, silent)
		want(t, "given up", whole(c), fmt.Sprintf("open false, %+v", []api.Reply{failed(1, api.ErrTimeout)}))
		asks(t, c, a, sent(2, 2, a))
	}
}

// TestP19_2Maps: one counts whose epoch is above what is known; then what waits for it is sent.
func TestP19_2Maps(t *testing.T) {
	c, a := begin(t, 5, 4), aGet("a")
	hears(t, c, mapped(only(2, 4)), silent) // nothing is open
	asks(t, c, a, sent(2, 1, a))
	hears(t, c, mapped(only(3, 5)), silent) // it waits for a reply
	ticks(t, c, 5, sent(3, 1, a))
	hears(t, c, elsewhere(1), where())
	hears(t, c, mapped(only(4, 5)), silent) // not above
	hears(t, c, mapped(only(4, 4)), silent)
	hears(t, c, mapped(only(4, 1)), silent)
	ticks(t, c, 5, sent(3, 1, a))
	hears(t, c, mapped(only(4, 6)), sent(4, 1, a)) // it waited yet
	hears(t, c, mapped(only(5, 7)), silent)        // and does no more
	hears(t, c, mapped(only(1, 6)), silent)
	ticks(t, c, 5, sent(5, 1, a))
	hears(t, c, elsewhere(1), where())
	hears(t, c, replied(done(1)), silent)
	hears(t, c, mapped(only(1, 8)), silent) // nothing waits any more
	asks(t, c, a, sent(1, 2, a))
	hears(t, c, mapped(only(2, 9)), silent) // this one did not wait
	hears(t, c, mapped(only(3, 1<<28-1)), silent)
	hears(t, c, mapped(only(4, 1<<28-2)), silent)
	hears(t, c, replied(done(2)), silent)
	asks(t, c, a, sent(3, 3, a))
	want(t, "Answers", c.Answers(), []api.Reply{done(1), done(2)})
}

// TestP19_2TheAtlasEpochCounts: shards' own epochs do not.
func TestP19_2TheAtlasEpochCounts(t *testing.T) {
	c := told(t, at(5))
	young := only(3, 6) // of shards of epoch 1
	hears(t, c, mapped(young), silent)
	hears(t, c, mapped(at(5, key("a"))), silent)
	asks(t, c, aGet("z"), sent(3, 1, aGet("z")))
}

func TestP19_2MapsFromAnyParty(t *testing.T) {
	for _, from := range []int{0, 1, 5, 100, 103} {
		c := begin(t, 3, 4)
		asks(t, c, aGet("a"), where())
		n := mapped(only(2, 1))
		n.From = from
		hears(t, c, n, sent(2, 1, aGet("a")))
		r := replied(done(1))
		r.From = from
		hears(t, c, r, silent)
		want(t, "Answers", c.Answers(), []api.Reply{done(1)})
	}
}

// TestP19_2Replies: one to its client and the open ask is its answer, as it is, whatever it tells.
func TestP19_2Replies(t *testing.T) {
	l := []api.Reply{
		{}, {Found: true}, {Val: "x"}, {Found: true, Val: "x", L: recs("a", "b"), Next: "n", More: true}, {Next: "n"}, {L: recs("a")},
		{Err: api.ErrTimeout, Val: "x"}, {Err: api.ErrBusy}, {Err: 1<<28 - 1}, {Err: api.ErrState}, {Err: api.ErrFull}, {Err: api.ErrArg}, {Err: api.ErrText}, {Err: api.ErrLong},
		{Val: strings.Repeat("x", 30000)},
	}
	c := told(t, only(2, 1))
	for i, r := range l {
		seq := i + 1
		a := aPage("", "", 16)
		asks(t, c, a, sent(2, seq, a))
		was := whole(c)
		for _, n := range []int{0, 1, seq - 1, seq + 1, 1<<28 - 1} {
			other := r
			other.Client, other.Seq = 1, n
			if n != seq {
				hears(t, c, replied(other), silent)
			}
			other.Err = api.ErrEpoch
			if n != seq {
				hears(t, c, replied(other), silent)
			}
		}
		for _, client := range []int{0, 2, 3, 4, 100, 101} {
			other := r
			other.Client, other.Seq = client, seq
			hears(t, c, replied(other), silent)
			other.Err = api.ErrEpoch
			hears(t, c, replied(other), silent)
		}
		want(t, "behind others' replies", whole(c), was)
		r.Client, r.Seq = 1, seq
		l[i] = r
		for range 3 {
			hears(t, c, replied(r), silent)
			want(t, "Answers", []any{c.Open(), c.Answers()}, []any{false, l[:seq]})
		}
		hears(t, c, replied(failed(seq, api.ErrFull)), silent)
		hears(t, c, elsewhere(seq), silent)
		hears(t, c, elsewhere(seq+1), silent)
		hears(t, c, elsewhere(0), silent)
		want(t, "behind what comes too late", []any{c.Open(), c.Answers(), c.Tick()}, []any{false, l[:seq], silent})
	}
}

// TestP19_2WhereOnceATick: what follows ErrEpoch is sent at most once for each tick, whatever is open; what Ask and Tick send is not counted.
func TestP19_2WhereOnceATick(t *testing.T) {
	c, a := begin(t, 2, 9), aGet("a")
	asks(t, c, a, where())
	hears(t, c, mapped(only(2, 1)), sent(2, 1, a))
	hears(t, c, elsewhere(1), where())
	hears(t, c, elsewhere(1), silent)
	hears(t, c, mapped(only(3, 2)), sent(3, 1, a))
	hears(t, c, elsewhere(1), silent)
	hears(t, c, mapped(only(4, 3)), sent(4, 1, a)) // it waits, though no Where was sent
	hears(t, c, replied(done(1)), silent)
	asks(t, c, a, sent(4, 2, a))
	hears(t, c, elsewhere(2), silent) // it is the same tick yet
	hears(t, c, mapped(only(5, 4)), sent(5, 2, a))
	ticks(t, c, 1, silent)
	hears(t, c, elsewhere(2), where())
	hears(t, c, elsewhere(2), silent)
	ticks(t, c, 1, sent(5, 2, a))
	hears(t, c, elsewhere(2), where())
	hears(t, c, elsewhere(2), silent)
	hears(t, c, replied(done(2)), silent)
	ticks(t, c, 1, silent) // nothing is open, and the tick is another all the same
	asks(t, c, a, sent(5, 3, a))
	hears(t, c, elsewhere(3), where())
	hears(t, c, elsewhere(3), silent)
	want(t, "Answers", []any{c.Open(), c.Answers()}, []any{true, []api.Reply{done(1), done(2)}})
}

// TestP19_2ErrEpochTellsNothingElse: whatever stands beside it, the ask stays open, and goes on by its ticks.
func TestP19_2ErrEpochTellsNothingElse(t *testing.T) {
	c, a := told(t, only(2, 1)), aGet("a")
	asks(t, c, a, sent(2, 1, a))
	r := done(1)
	r.Err, r.L = api.ErrEpoch, recs("a")
	ticks(t, c, 1, silent)
	hears(t, c, replied(r), where())
	ticks(t, c, 2, sent(2, 1, a))
	hears(t, c, replied(r), where())
	ticks(t, c, 3, sent(2, 1, a))
	ticks(t, c, 3, sent(2, 1, a))
	ticks(t, c, 3, silent)
	want(t, "given up", []any{c.Open(), c.Answers()}, []any{false, []api.Reply{failed(1, api.ErrTimeout)}})
	hears(t, c, mapped(only(3, 2)), silent) // it waits no more
}

// TestP19_2ErrEpochWithoutAnAtlas: nobody was asked, and yet such a reply may come.
func TestP19_2ErrEpochWithoutAnAtlas(t *testing.T) {
	c, a := begin(t, 3, 4), aGet("a")
	asks(t, c, a, where())
	hears(t, c, elsewhere(1), where())
	hears(t, c, elsewhere(1), silent)
	hears(t, c, mapped(only(3, 2)), sent(3, 1, a))
	hears(t, c, replied(done(1)), silent)
	c = begin(t, 3, 4)
	asks(t, c, a, where())
	hears(t, c, replied(done(1)), silent)
	want(t, "answered", []any{c.Open(), c.Answers()}, []any{false, []api.Reply{done(1)}})
	hears(t, c, mapped(only(3, 2)), silent)
}

// TestP19_2Ticks has an ask sent again at each every-th tick since it was asked, and given up at the tries-th of these, with an atlas and without one.
func TestP19_2Ticks(t *testing.T) {
	for every := 1; every <= 5; every++ {
		for tries := 1; tries <= 5; tries++ {
			for ahead := range 6 {
				for _, knows := range []bool{false, true} {
					c, a := begin(t, every, tries), aPut("a", "x")
					if knows {
						hears(t, c, mapped(only(2, 1)), silent)
					}
					for seq := 1; seq <= 2; seq++ {
						again := where()
						if knows {
							again = sent(2, seq, a)
						}
						for range ahead {
							want(t, "a tick ahead", c.Tick(), silent)
						}
						asks(t, c, a, again)
						for since := 1; since < every*tries; since++ {
							l := silent
							if since%every == 0 {
								l = again
							}
							what := fmt.Sprintf("every %d, %d tries, tick %d", every, tries, since)
							want(t, what, []any{c.Tick(), c.Open(), len(c.Answers())}, []any{l, true, seq - 1})
						}
						want(t, "the last tick", []any{c.Tick(), c.Open(), c.Answers()[seq-1]}, []any{silent, false, failed(seq, api.ErrTimeout)})
						hears(t, c, replied(done(seq)), silent) // too late
						hears(t, c, elsewhere(seq), silent)
						want(t, "behind it", []any{c.Open(), c.Answers()[seq-1]}, []any{false, failed(seq, api.ErrTimeout)})
					}
				}
			}
		}
	}
}

func TestP19_2ManyTicks(t *testing.T) {
	for _, x := range []struct{ every, tries int }{{1000, 1000}, {1, 1000}, {1000, 1}} {
		c, a := begin(t, x.every, x.tries), aGet("a")
		hears(t, c, mapped(only(2, 1)), silent)
		asks(t, c, a, sent(2, 1, a))
		again := 0
		for range x.every*x.tries - 1 {
			again += len(c.Tick())
		}
		want(t, "ahead of the last tick", []any{again, c.Open()}, []any{x.tries - 1, true})
		want(t, "the last tick", []any{c.Tick(), c.Open(), c.Answers()}, []any{silent, false, []api.Reply{failed(1, api.ErrTimeout)}})
	}
}

// TestP19_2NothingElseCountsTicks: neither what is heard nor what is sent begins them anew.
func TestP19_2NothingElseCountsTicks(t *testing.T) {
	c, a := begin(t, 4, 3), aGet("a")
	asks(t, c, a, where())
	ticks(t, c, 3, silent)
	hears(t, c, mapped(only(2, 1)), sent(2, 1, a))
	ticks(t, c, 1, sent(2, 1, a))
	ticks(t, c, 3, silent)
	hears(t, c, elsewhere(1), where())
	hears(t, c, mapped(only(3, 2)), sent(3, 1, a))
	ticks(t, c, 1, sent(3, 1, a))
	refuses(t, c, a, api.ErrBusy)
	ticks(t, c, 3, silent)
	hears(t, c, elsewhere(1), where())
	ticks(t, c, 1, silent)
	want(t, "given up", []any{c.Open(), c.Answers()}, []any{false, []api.Reply{failed(1, api.ErrTimeout)}})
}

// TestP19_2SentAgainToWhoHasItNow: by the atlas of that tick.
func TestP19_2SentAgainToWhoHasItNow(t *testing.T) {
	c, a := told(t, at(1, key("m"))), aPage(key("m"), "", 3)
	asks(t, c, a, sent(2, 1, a))
	hears(t, c, mapped(at(2, key("k"), key("l"))), silent)
	ticks(t, c, 3, sent(3, 1, a))
	hears(t, c, mapped(at(3, key("n"))), silent)
	ticks(t, c, 3, sent(1, 1, a))
	hears(t, c, mapped(at(4, key("a"), key("b"), key("m"), key("n"))), silent)
	ticks(t, c, 3, sent(4, 1, a))
	ticks(t, c, 3, silent)
}

func TestP19_2WhatMayNotBeOrIsForOthers(t *testing.T) {
	good := []note.Note{mapped(only(3, 9)), replied(done(1)), elsewhere(1)}
	spoil := []func(n *note.Note){
		func(n *note.Note) { n.To = 100 },
		func(n *note.Note) { n.To = 102 },
		func(n *note.Note) { n.To = 0 },
		func(n *note.Note) { n.To = 1 },
		func(n *note.Note) { n.To = 104 },
		func(n *note.Note) { n.From = 101 },
		func(n *note.Note) { n.From = 6 },
		func(n *note.Note) { n.From = -1 },
		func(n *note.Note) { n.From = 104 },
		func(n *note.Note) { n.Kind = 0 },
		func(n *note.Note) { n.Kind = 13 },
		func(n *note.Note) { n.Kind = -1 },
		func(n *note.Note) { n.Kind = note.Where },
		func(n *note.Note) { n.Epoch = 1 },
		func(n *note.Note) { n.Tick = 1 },
		func(n *note.Note) { n.Ask = aGet("a") },
		func(n *note.Note) { n.Span.To = "a" },
		func(n *note.Note) { n.L = recs("a") },
		func(n *note.Note) { n.Reply.Val, n.Atlas.Epoch = "x", 9 },
		func(n *note.Note) { n.Reply.Found, n.Atlas = true, only(3, 9); n.Atlas.L[0].Node = 6 },
		func(n *note.Note) { n.Reply.Next, n.Atlas = "n", only(3, 0) },
		func(n *note.Note) { n.Reply.More, n.Atlas = true, at(9, key("b"), key("a")) },
		func(n *note.Note) { n.Reply.L, n.Atlas = recs("a"), atlas.Atlas{Epoch: 9} },
		func(n *note.Note) { n.Reply.Val = strings.Repeat("x", api.MaxFrame) },
	}
	for _, n := range good {
		c := begin(t, 3, 4)
		asks(t, c, aGet("a"), where())
		was := whole(c)
		for i, f := range spoil {
			bad := n
			f(&bad)
			want(t, fmt.Sprintf("%+v, spoiled by %d", n, i), []any{c.Hear(bad), whole(c)}, []any{silent, was})
		}
		if l := c.Hear(n); len(l) == 0 && whole(c) == was {
			t.Errorf("%+v changes nothing", n)
		}
	}
}

// TestP19_2OtherKinds tell a caller nothing, whether an ask waits or not.
func TestP19_2OtherKinds(t *testing.T) {
	for _, c := range []*Caller{begin(t, 3, 4), told(t, only(2, 1))} {
		for range 2 {
			was := whole(c)
			for kind := -1; kind < 15; kind++ {
				n := full(kind)
				want(t, fmt.Sprintf("May of %d", kind), note.May(n), kind >= 1 && kind <= 12)
				if kind != note.Map && (kind != note.Reply || !c.Open()) {
					want(t, fmt.Sprintf("a note of kind %d", kind), []any{c.Hear(n), whole(c)}, []any{silent, was})
				}
			}
			c.Ask(aGet("a"))
		}
		if c.Hear(mapped(only(3, 2))); c.Tick() != nil || c.Tick() != nil {
			t.Error("a tick is lost")
		}
		want(t, "Tick", c.Tick(), sent(3, 1, aGet("a")))
	}
}

// TestP19_2AnswersBySeq has asks answered, refused and given up.
func TestP19_2AnswersBySeq(t *testing.T) {
	c := told(t, only(2, 1))
	var l []api.Reply
	for seq := 1; seq <= 1000; seq++ {
		asks(t, c, aGet("a"), sent(2, seq, aGet("a")))
		r := done(seq)
		switch seq % 5 {
		case 0:
			r = failed(seq, api.ErrTimeout)
			for range 12 {
				c.Tick()
			}
		case 1:
			r = failed(seq, api.ErrFull)
		}
		c.Hear(replied(r))
		l = append(l, r)
	}
	want(t, "Answers", c.Answers(), l)
}

func TestR4WhatIsHandedInStaysAndIsNotKept(t *testing.T) {
	tab := table()
	c, _ := New(1, tab, 3, 4)
	for i := range tab.Rows {
		clear(tab.Rows[i].Of)
		clear(tab.Rows[i].To)
	}
	for i := range tab.Lore {
		clear(tab.Lore[i].To)
	}
	clear(tab.Rows)
	clear(tab.Lore)
	a := at(3, key("é"), key("m"))
	a.L = a.L[:3:3]
	a.L = append(a.L, atlas.Shard{Node: 7})[:3]
	hears(t, c, mapped(a), silent)
	want(t, "what was handed in", []any{a.L, a.L[:4][3]}, []any{at(3, key("é"), key("m")).L, atlas.Shard{Node: 7}})
	clear(a.L[:4])
	asks(t, c, aGet("e\u0301"), sent(2, 1, aGet("e\u0301")))
	r := done(1)
	r.L = recs("a", "b", "spare")[:2]
	hears(t, c, replied(r), silent)
	want(t, "what was handed in", r.L[:3], recs("a", "b", "spare"))
	clear(r.L[:3])
	want(t, "Answers", c.Answers()[0].L, recs("a", "b"))
}

func TestR4WhatIsAnsweredIsNewMemory(t *testing.T) {
	c := begin(t, 1, 9)
	spoil := func(l []note.Note) { clear(l[:cap(l)]) }
	a := aGet("a")
	for range 2 {
		l, _ := c.Ask(a)
		want(t, "Where", l, where())
		spoil(l)
		l = c.Tick()
		want(t, "Where", l, where())
		spoil(l)
		c.Hear(replied(done(1)))
		c = begin(t, 1, 9)
	}
	c.Ask(a)
	spoil(c.Hear(mapped(only(2, 1))))
	for range 3 {
		l := c.Tick()
		want(t, "Tick", l, sent(2, 1, a))
		spoil(l)
		l = c.Hear(elsewhere(1))
		want(t, "ErrEpoch", l, where())
		spoil(l)
	}
	r := done(1)
	r.L = recs("a", "b")
	c.Hear(replied(r))
	c.Ask(a)
	c.Hear(replied(done(2)))
	for range 3 {
		l := c.Answers()
		want(t, "Answers", l, []api.Reply{r, done(2)})
		clear(l[0].L[:cap(l[0].L)])
		clear(l[:cap(l)])
	}
}

func TestR7NilAndZeroCaller(t *testing.T) {
	var none *Caller
	for _, c := range []*Caller{none, {}} {
		for _, a := range []api.Ask{aGet("a"), {}, aPage("", "", 3), aGet("\xff")} {
			for range 2 {
				l, e := c.Ask(a)
				want(t, "Ask", []any{l, e}, []any{silent, api.ErrArg})
			}
		}
		for _, party := range []int{0, 100, 101} {
			for _, n := range []note.Note{mapped(only(2, 1)), replied(done(0)), elsewhere(0), replied(api.Reply{})} {
				n.To = party
				want(t, "Hear", c.Hear(n), silent)
			}
		}
		for range 3 {
			want(t, "others", []any{c.Tick(), c.Open(), c.Answers()}, []any{silent, false, []api.Reply(nil)})
		}
	}
}

// TestP19_1CallersAreApart has callers of other clients and other tables.
func TestP19_1CallersAreApart(t *testing.T) {
	var l []*Caller
	for client := range api.MaxClients {
		tab := table()
		if client == 2 {
			tab.Rows = slices.DeleteFunc(tab.Rows, func(r api.Row) bool { return r.Of[0] == 'a' }) // so that a is behind all others
		}
		c, e := New(client, tab, 1+client, 2)
		want(t, "New", e, api.OK)
		l = append(l, c)
	}
	for client, c := range l {
		n := mapped(at(1, key("m")))
		n.To = 100 + client
		for _, other := range l {
			want(t, "Map", other.Hear(n), silent)
		}
		node := 1
		if client == 2 {
			node = 2
		}
		got, e := c.Ask(aGet("a"))
		want(t, "Ask", []any{got, e}, []any{[]note.Note{{Kind: note.Ask, From: 100 + client, To: node, Ask: api.Ask{Do: 3, Client: client, Seq: 1, Text: "a"}}}, api.OK})
		for i, other := range l {
			want(t, "Open", other.Open(), i <= client)
		}
	}
	for now := 1; now <= 8; now++ {
		for client, c := range l {
			want(t, "Tick", []any{len(c.Tick()), c.Open()}, []any{btoi(now == 1+client), now < 2*(1+client)})
		}
	}
}

func btoi(b bool) int {
	if b {
		return 1
	}
	return 0
}
