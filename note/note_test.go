package note

import (
	"fmt"
	"math"
	"reflect"
	"slices"
	"strings"
	"testing"

	"gazetteer/api"
	"gazetteer/atlas"
	"gazetteer/once"
)

// dice answers numbers that look like any, the same each time.
func dice() func(most int) int {
	state := uint64(16)
	return func(most int) int {
		state = state*6364136223846793005 + 1442695040888963407
		return int(state>>33) % most
	}
}

const (
	greatest = 268435455 // the greatest number that a parcel has
	frame    = 32768     // MaxFrame
)

// has tells the fields that a kind's notes have, as the promise lists them.
var has = map[int][]string{
	1: {"Ask"}, 2: {"Reply"}, 3: {}, 4: {"Atlas"}, 5: {"Tick"}, 6: {"Tick", "Atlas"},
	7: {"Span", "Epoch"}, 8: {"Span", "Epoch", "L", "Last"}, 9: {"Span", "Epoch", "L", "Last"},
	10: {"Span", "Epoch"}, 11: {"Span", "Epoch"}, 12: {"Span", "Epoch"},
}

// kinds are all kinds, rising.
func kinds() []int {
	l := make([]int, 12)
	for i := range l {
		l[i] = i + 1
	}
	return l
}

func fullReply() api.Reply {
	return api.Reply{
		Client: 3, Seq: 7, Err: api.ErrFull, Found: true, Val: "v\xff",
		L: []api.Record{{Text: "a", Val: "x"}, {}, {Text: "b"}}, Next: "\x00n", More: true,
	}
}

func fullAtlas() atlas.Atlas {
	return atlas.Atlas{Epoch: 9, L: []atlas.Shard{
		{Span: api.Span{To: "b\x00"}, Node: 1, Epoch: 9},
		{Span: api.Span{From: "b\x00", To: "m"}, Node: 5, Epoch: 4},
		{Span: api.Span{From: "m"}, Node: 2, Epoch: 1},
	}}
}

// brimming is a note that has something in each field, as no note may.
func brimming() Note {
	return Note{
		From: 100, To: 0, Epoch: 2, Tick: 3,
		Ask:   api.Ask{Do: 1, Client: 2, Seq: 3, Limit: 4, Text: "t", Val: "v", From: "f", To: "to"},
		Reply: fullReply(),
		Span:  api.Span{From: "f", To: "g"},
		L:     []api.Record{{Text: "k", Val: "w"}, {}, {Val: "\xff\x00"}},
		Last:  []once.Last{{Seq: 7, Reply: fullReply()}, {}, {Seq: 5, Reply: api.Reply{Client: 1, Seq: 4}}},
		Atlas: fullAtlas(),
	}
}

// full is a note of that kind that has something in all that its kind has.
func full(kind int) Note {
	from, n := brimming(), Note{Kind: kind, From: 100}
	for _, f := range has[kind] {
		field(&n, f).Set(field(&from, f))
	}
	return n
}

func field(n *Note, name string) reflect.Value { return reflect.ValueOf(n).Elem().FieldByName(name) }

func isZero(n Note) bool { return reflect.DeepEqual(n, Note{}) }

// check holds n against whether it may be: May, Pack and, of what its parts would be as bytes, Read.
func check(t *testing.T, what any, n Note, may bool) {
	t.Helper()
	if got := May(n); got != may {
		t.Errorf("%v: May is %v", what, got)
	}
	b, e := Pack(n)
	if may {
		if back, f := Read(b); e != api.OK || f != api.OK || !reflect.DeepEqual(back, n) {
			t.Errorf("%v: Pack %v, Read %v", what, e, f)
		}
		return
	}
	if b != nil || e != api.ErrArg {
		t.Errorf("%v: Pack answers %d bytes, %v", what, len(b), e)
	}
	if b, e := lay(n); e == api.OK {
		if back, e := Read(b); e != api.ErrForm || !isZero(back) {
			t.Errorf("%v: Read of its parts answers %+v, %v", what, back, e)
		}
	}
}

func TestP16_1TheKinds(t *testing.T) {
	if l := []int{Ask, Reply, Where, Map, Beat, Grant, Freeze, Bundle, Install, Done, Forget, Gone}; !slices.Equal(l, kinds()) {
		t.Errorf("the kinds are %v", l)
	}
	for _, kind := range kinds() {
		check(t, kind, full(kind), true)
	}
	for _, kind := range []int{0, -1, 13, 14, 255, 256 + 3, greatest, greatest + 1, 1<<32 + 3, math.MaxInt, math.MinInt} {
		check(t, kind, Note{Kind: kind, From: 100}, false)
		n := brimming()
		n.Kind = kind
		check(t, kind, n, false)
	}
	check(t, "nothing", Note{}, false)
}

func TestP16_1NotesThatHaveNothing(t *testing.T) {
	may := map[int]int{Ask: 1, Reply: 1, Where: 1, Beat: 1, Freeze: 1, Bundle: 1, Install: 1, Done: 1, Forget: 1, Gone: 1}
	for _, kind := range kinds() { // an atlas of no shards may not be
		check(t, kind, Note{Kind: kind, From: 1}, may[kind] == 1)
	}
}

func TestP16_1Parties(t *testing.T) {
	parties := []int{0, 1, 2, 3, 4, 5, 100, 101, 102, 103}
	others := []int{-1, 6, 7, 50, 99, 104, 105, 200, 1000, -100, -5, 1 << 32, 1<<32 + 1, 1<<32 + 100, greatest, math.MaxInt, math.MinInt}
	for _, from := range slices.Concat(parties, others) {
		for _, to := range slices.Concat(parties, others) {
			may := slices.Contains(parties, from) && slices.Contains(parties, to) && from != to
			for _, kind := range kinds() {
				n := full(kind)
				n.From, n.To = from, to
				check(t, fmt.Sprint("kind ", kind, " from ", from, " to ", to), n, may)
			}
		}
	}
}

func TestP16_1EpochAndTickAtTheirBounds(t *testing.T) {
	for _, name := range []string{"Epoch", "Tick"} {
		for _, kind := range kinds() {
			for _, x := range []int{0, 1, 255, 256, 1<<28 - 2, 1<<28 - 1} {
				n := full(kind)
				field(&n, name).SetInt(int64(x))
				check(t, fmt.Sprint("kind ", kind, " ", name, " ", x), n, x == 0 || slices.Contains(has[kind], name))
			}
			for _, x := range []int{-1, 1 << 28, 1<<28 + 1, 1<<31 - 1, 1 << 32, 1<<32 + 1, math.MaxInt, math.MinInt} {
				n := full(kind)
				field(&n, name).SetInt(int64(x))
				check(t, fmt.Sprint("kind ", kind, " ", name, " ", x), n, false)
			}
		}
	}
}

// traces are notes that have nothing but one thing each, by the field that has it.
func traces() map[string][]Note {
	l := map[string][]Note{
		"Epoch": {{Epoch: 1}},
		"Tick":  {{Tick: 1}},
		"Ask":   {{Ask: api.Ask{Do: 1}}, {Ask: api.Ask{Client: 1}}, {Ask: api.Ask{Seq: 1}}, {Ask: api.Ask{Limit: 1}}, {Ask: api.Ask{Text: "x"}}, {Ask: api.Ask{Val: "x"}}, {Ask: api.Ask{From: "x"}}, {Ask: api.Ask{To: "x"}}},
		"Span":  {{Span: api.Span{From: "x"}}, {Span: api.Span{To: "x"}}},
		"L":     {{L: []api.Record{{Text: "x"}}}, {L: []api.Record{{Val: "x"}}}, {L: []api.Record{{}}}, {L: make([]api.Record, 20)}},
		"Last":  {{Last: []once.Last{{Seq: 1}}}, {Last: []once.Last{{Reply: api.Reply{Client: 1}}}}, {Last: []once.Last{{}}}},
		"Atlas": {{Atlas: atlas.First(1)}, {Atlas: fullAtlas()}},
	}
	for _, r := range []api.Reply{{Client: 1}, {Seq: 1}, {Err: 1}, {Found: true}, {Val: "x"}, {L: []api.Record{{}}}, {Next: "x"}, {More: true}} {
		l["Reply"] = append(l["Reply"], Note{Reply: r})
	}
	return l
}

func TestP16_1WhatAKindDoesNotHaveIsZero(t *testing.T) {
	many := 0
	for name, l := range traces() {
		for _, x := range l {
			for _, kind := range kinds() {
				n := full(kind)
				field(&n, name).Set(field(&x, name))
				check(t, fmt.Sprintf("kind %d with %s %+v", kind, name, x), n, slices.Contains(has[kind], name))
				many++
			}
		}
	}
	if fields := reflect.TypeFor[Note]().NumField(); len(traces()) != fields-3 || many < 300 {
		t.Errorf("traces of %d fields of %d, %d notes", len(traces()), fields, many)
	}
	for _, kind := range kinds() { // a part of an atlas, that may not be, is not nothing
		for _, a := range []atlas.Atlas{{Epoch: 1}, {L: []atlas.Shard{{}}}, {L: []atlas.Shard{{Node: 1, Epoch: 1}}}} {
			n := full(kind)
			n.Atlas = a
			check(t, fmt.Sprintf("kind %d with %+v", kind, a), n, false)
		}
	}
}

func TestP16_1AListWithoutItemsIsNone(t *testing.T) {
	for _, kind := range kinds() {
		n := full(kind)
		n.L, n.Last, n.Reply.L = n.L[:0:0], n.Last[:0:0], n.Reply.L[:0:0]
		if n.Atlas.L == nil {
			n.Atlas.L = []atlas.Shard{}
		}
		if n.L == nil {
			n.L = []api.Record{}
		}
		if n.Last == nil {
			n.Last = []once.Last{}
		}
		if n.Reply.L == nil {
			n.Reply.L = []api.Record{}
		}
		want := n
		want.L, want.Last, want.Reply.L = nil, nil, nil
		if len(n.Atlas.L) == 0 {
			want.Atlas.L = nil
		}
		b, e := Pack(n)
		c, f := Pack(want)
		back, g := Read(b)
		if !May(n) || !May(want) || string(b) != string(c) || e != api.OK || f != api.OK || g != api.OK || !reflect.DeepEqual(back, want) {
			t.Errorf("kind %d: %v, %v, %v, %+v", kind, e, f, g, back)
		}
	}
}

// evenly answers an atlas of that many shards.
func evenly(many int) atlas.Atlas {
	a := atlas.Atlas{Epoch: 1}
	from := ""
	for i := range many {
		to := ""
		if i+1 < many {
			to = string([]byte{byte('a' + i)})
		}
		a.L = append(a.L, atlas.Shard{Span: api.Span{From: from, To: to}, Node: 1 + i%5, Epoch: 1})
		from = to
	}
	return a
}

func TestP16_1TheAtlas(t *testing.T) {
	tests := []struct {
		what   string
		change func(a *atlas.Atlas)
		may    bool
	}{
		{"as it is", func(a *atlas.Atlas) {}, true},
		{"one shard", func(a *atlas.Atlas) { *a = atlas.First(5) }, true},
		{"MaxRanges", func(a *atlas.Atlas) { *a = evenly(12) }, true},
		{"more", func(a *atlas.Atlas) { *a = evenly(13) }, false},
		{"none", func(a *atlas.Atlas) { *a = atlas.Atlas{} }, false},
		{"no shard", func(a *atlas.Atlas) { a.L = nil }, false},
		{"MaxNodes", func(a *atlas.Atlas) { a.L[0].Node = 5 }, true},
		{"a node above", func(a *atlas.Atlas) { a.L[0].Node = 6 }, false},
		{"node 0", func(a *atlas.Atlas) { a.L[2].Node = 0 }, false},
		{"a gap", func(a *atlas.Atlas) { a.L[1].Span.To = "l" }, false},
		{"an end", func(a *atlas.Atlas) { a.L[2].Span.To = "z" }, false},
		{"a beginning", func(a *atlas.Atlas) { a.L[0].Span.From = "a" }, false},
		{"another order", func(a *atlas.Atlas) { a.L[0], a.L[1] = a.L[1], a.L[0] }, false},
		{"an epoch below a shard's", func(a *atlas.Atlas) { a.Epoch = 8 }, false},
		{"epoch 0 of a shard", func(a *atlas.Atlas) { a.L[1].Epoch = 0 }, false},
		{"the greatest epoch", func(a *atlas.Atlas) { a.Epoch = greatest }, true},
		{"the greatest epochs", func(a *atlas.Atlas) { a.Epoch, a.L[1].Epoch = greatest, greatest }, true},
		{"an epoch that parcel cannot pack", func(a *atlas.Atlas) { a.Epoch = greatest + 1 }, false},
		{"epochs that parcel cannot pack", func(a *atlas.Atlas) { a.Epoch, a.L[1].Epoch = 1<<40, 1<<40 }, false},
	}
	for _, x := range tests {
		for _, kind := range []int{Map, Grant} {
			n := full(kind)
			n.Atlas.L = slices.Clone(n.Atlas.L)
			x.change(&n.Atlas)
			check(t, fmt.Sprint("kind ", kind, ", ", x.what), n, x.may)
		}
	}
}

// mayPack tells of a number whether parcel packs it.
func mayPack(x int) bool { return x >= 0 && x <= greatest }

func TestP16_1NumbersThatParcelCannotPack(t *testing.T) {
	for _, x := range []int{0, 1, 1<<28 - 2, 1<<28 - 1, 1 << 28, 1<<28 + 1, -1, -2, 1 << 32, 1<<32 + 1, math.MaxInt, math.MinInt} {
		for _, a := range []api.Ask{{Do: x}, {Client: x}, {Seq: x}, {Limit: x}} {
			check(t, fmt.Sprintf("%+v", a), Note{Kind: Ask, From: 101, To: 3, Ask: a}, mayPack(x))
		}
		replies := []api.Reply{{Client: x}, {Seq: x}, {Err: api.Errno(x)}}
		for _, r := range replies {
			check(t, fmt.Sprintf("%+v", r), Note{Kind: Reply, From: 3, To: 101, Reply: r}, mayPack(x))
		}
		for _, kind := range []int{Bundle, Install} {
			for _, r := range replies {
				check(t, fmt.Sprintf("kind %d, last %+v", kind, r), Note{Kind: kind, From: 3, Last: []once.Last{{}, {Reply: r}}}, mayPack(x))
			}
			for _, r := range []api.Reply{{}, {Seq: 1}} { // nobody says that the Seq is the Reply's
				check(t, fmt.Sprintf("kind %d, last of Seq %d", kind, x), Note{Kind: kind, From: 3, Last: []once.Last{{Seq: x, Reply: r}}}, mayPack(x))
			}
		}
	}
}

func TestP16_1AsksAndRepliesAtMaxFrame(t *testing.T) {
	for _, more := range []int{-1, 0, 1, 1000} {
		long := strings.Repeat("x", frame-32+more) // eight numbers of four bytes are beside it
		for _, a := range []api.Ask{{Text: long}, {Val: long}, {From: long}, {To: long}, {Text: long[:9], To: long[9:]}} {
			check(t, fmt.Sprint("an ask, ", more), Note{Kind: Ask, From: 100, Ask: a}, more <= 0)
		}
		long = strings.Repeat("x", frame-26+more)
		for _, r := range []api.Reply{{Val: long}, {Next: long}, {L: []api.Record{{Text: long[:5], Val: long[13:]}}}} {
			check(t, fmt.Sprint("a reply, ", more), Note{Kind: Reply, To: 100, Reply: r}, more <= 0)
			check(t, fmt.Sprint("a last one, ", more), Note{Kind: Install, To: 1, Last: []once.Last{{}, {Seq: 1, Reply: r}, {}}}, more <= 0)
		}
	}
}

func TestP16_1ListsOfManyItems(t *testing.T) {
	check(t, "2^20 records", Note{Kind: Install, To: 1, L: make([]api.Record, 1<<20)}, true)
	check(t, "2^20 + 1 records", Note{Kind: Install, To: 1, L: make([]api.Record, 1<<20+1)}, false)
	check(t, "2^20 last answers", Note{Kind: Bundle, From: 1, Last: make([]once.Last, 1<<20)}, true)
	check(t, "2^20 + 1 last answers", Note{Kind: Bundle, From: 1, Last: make([]once.Last, 1<<20+1)}, false)
}

func TestP16_1WhatIsNotSaidToBeRefusedIsTaken(t *testing.T) {
	long := strings.Repeat("\xff", 3*frame) // it is asks and replies that a frame bounds
	tests := []Note{
		{Kind: Ask, From: 1, To: 2, Ask: api.Ask{Do: 99, Client: 77, Text: "\xff", Limit: 1000}},
		{Kind: Reply, From: 103, To: 102, Reply: api.Reply{Client: 50, Err: 1000, Found: true, More: true}},
		{Kind: Where, From: 5, To: 103},
		{Kind: Beat, From: 0, To: 1},
		{Kind: Grant, From: 100, To: 101, Atlas: fullAtlas()},
		{Kind: Freeze, From: 0, To: 1, Span: api.Span{From: "b", To: "a"}},
		{Kind: Freeze, From: 0, To: 1, Span: api.Span{From: long, To: long}, Epoch: 1},
		{Kind: Gone, From: 2, To: 3, Epoch: 4},
		{Kind: Install, From: 0, To: 1, L: []api.Record{{Text: long, Val: long}, {Text: long, Val: long}}},
		{Kind: Bundle, From: 1, To: 0, Last: []once.Last{{Seq: 2, Reply: api.Reply{Client: 9}}, {Seq: 1, Reply: api.Reply{Client: 9, Seq: 3}}}},
		{Kind: Map, From: 0, To: 1, Atlas: atlas.Atlas{Epoch: 2, L: []atlas.Shard{{Span: api.Span{To: long}, Node: 1, Epoch: 1}, {Span: api.Span{From: long}, Node: 1, Epoch: 2}}}},
	}
	for i, n := range tests {
		check(t, i, n, true)
	}
}

func ExampleRead() {
	b, e := Pack(Note{Kind: Where, From: 100, To: 0})
	n, f := Read(b)
	fmt.Println(n.Kind == Where, n.From, n.To, e, f)
	// Output: true 100 0 ok ok
}
