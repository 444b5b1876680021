package once

import (
	"cmp"
	"math"
	"reflect"
	"runtime"
	"slices"
	"strconv"
	"strings"
	"testing"

	"gazetteer/api"
)

// plain is what was answered as the promise writes it: all that were noted, in a row.
type plain []api.Reply

// last answers the last reply that was noted of the client.
func (p plain) last(client int) (api.Reply, bool) {
	for _, r := range slices.Backward(p) {
		if r.Client == client {
			return r, true
		}
	}
	return api.Reply{}, false
}

func (p plain) see(client, seq int) (api.Reply, int) {
	r, there := p.last(client)
	top := -1
	if there {
		top = r.Seq
	}
	if seq > top {
		return api.Reply{}, 0
	}
	if there && seq == top {
		return r, 1
	}
	return api.Reply{}, 2
}

func (p *plain) note(r api.Reply) bool {
	if _, told := p.see(r.Client, r.Seq); told != 0 || r.Seq < 0 {
		return false
	}
	*p = append(*p, r)
	return true
}

func (p plain) all() []Last {
	var l []Last
	for i, r := range p {
		if _, later := p[i+1:].last(r.Client); !later {
			l = append(l, Last{r.Seq, r})
		}
	}
	slices.SortFunc(l, func(a, b Last) int { return cmp.Compare(a.Reply.Client, b.Reply.Client) })
	return l
}

// plainMerge asks of each one whether another of its client goes ahead of it.
func plainMerge(a, b []Last) []Last {
	both := slices.Concat(a, b)
	var l []Last
	for i, x := range both {
		stays := true
		for j, y := range both {
			if y.Reply.Client == x.Reply.Client && (y.Seq > x.Seq || y.Seq == x.Seq && j < i) {
				stays = false
			}
		}
		if stays {
			l = append(l, x)
		}
	}
	slices.SortFunc(l, func(a, b Last) int { return cmp.Compare(a.Reply.Client, b.Reply.Client) })
	return l
}

// dice answers numbers that look like any, the same each time.
func dice() func(most int) int {
	state := uint64(12)
	return func(most int) int {
		state = state*6364136223846793005 + 1442695040888963407
		return int(state>>33) % most
	}
}

// Short names for what stands in long rows.

func reply(client, seq int) api.Reply { return api.Reply{Client: client, Seq: seq} }

func told(client, seq int, val string) api.Reply {
	return api.Reply{Client: client, Seq: seq, Val: val}
}

func last(client, seq int, val string) Last { return Last{seq, told(client, seq, val)} }

// full answers a reply of which no field is zero.
func full(client, seq int) api.Reply {
	return api.Reply{
		Client: client, Seq: seq, Err: api.ErrFull, Found: true, Val: "v",
		L: []api.Record{{Text: "a", Val: "b"}, {}, {Text: "c"}}, Next: "n", More: true,
	}
}

func same(a, b any) bool { return reflect.DeepEqual(a, b) }

// table answers a new table behind those notes.
func table(l ...api.Reply) *Table {
	t := New()
	for _, r := range l {
		t.Note(r)
	}
	return t
}

// replies answers the replies of l.
func replies(l []Last) []api.Reply {
	var r []api.Reply
	for _, x := range l {
		r = append(r, x.Reply)
	}
	return r
}

// sees tells where See is not as it should be. It asks twice, as asking changes nothing.
func sees(t *testing.T, x *Table, client, seq int, want api.Reply, wantTold int) {
	t.Helper()
	for range 2 {
		if r, told := x.See(client, seq); !same(r, want) || told != wantTold {
			t.Fatalf("See(%d, %d): %+v, %d, want %+v, %d", client, seq, r, told, want, wantTold)
		}
	}
}

// has tells where All is not as it should be, asked twice.
func has(t *testing.T, what any, x *Table, want []Last) {
	t.Helper()
	for range 2 {
		if l := x.All(); !same(l, want) {
			t.Fatalf("%v: All: %+v, want %+v", what, l, want)
		}
	}
}

// near are numbers about each bound.
func near() []int {
	return []int{math.MinInt, math.MinInt32, -2, -1, 0, 1, 2, 1<<28 - 1, 1 << 28, math.MaxInt32, 1 << 32, math.MaxInt - 1, math.MaxInt}
}

func TestP12_1TheExample(t *testing.T) {
	x := New()
	if !x.Note(told(1, 5, "a")) {
		t.Fatal("Note 1 5: false")
	}
	sees(t, x, 1, 5, told(1, 5, "a"), 1)
	sees(t, x, 1, 4, api.Reply{}, 2)
	sees(t, x, 1, 6, api.Reply{}, 0)
}

func TestP12_1OfNothing(t *testing.T) {
	for _, x := range []*Table{New(), {}} {
		has(t, "a new table", x, nil)
		for _, client := range near() {
			for _, seq := range near() {
				want := 0
				if seq < 0 {
					want = 2
				}
				sees(t, x, client, seq, api.Reply{}, want)
			}
		}
		has(t, "a table that was asked alone", x, nil)
	}
}

func TestP12_1See(t *testing.T) {
	for _, client := range near() {
		for _, noted := range near() {
			if noted < 0 {
				continue
			}
			x := table(full(client, noted))
			for _, seq := range append(near(), noted-1, noted, noted+1) { // of the greatest, one more is the least
				switch {
				case seq > noted:
					sees(t, x, client, seq, api.Reply{}, 0)
				case seq == noted:
					sees(t, x, client, seq, full(client, noted), 1)
				default:
					sees(t, x, client, seq, api.Reply{}, 2)
				}
			}
			other := client / 2 // another client has its own
			if other != client {
				sees(t, x, other, noted, api.Reply{}, 0)
				sees(t, x, other, -1, api.Reply{}, 2)
			}
		}
	}
}

func TestP12_1SeeTellsOfTheLastOneAlone(t *testing.T) {
	x := table(told(1, 5, "a"), told(1, 9, "b"))
	sees(t, x, 1, 4, api.Reply{}, 2)
	sees(t, x, 1, 5, api.Reply{}, 2) // it was answered, but is not the last one
	sees(t, x, 1, 7, api.Reply{}, 2)
	sees(t, x, 1, 9, told(1, 9, "b"), 1)
	sees(t, x, 1, 10, api.Reply{}, 0)
	has(t, "two notes", x, []Last{last(1, 9, "b")})
}

func TestP12_1Note(t *testing.T) {
	tests := []struct {
		seqs []int
		want []bool
		last int
	}{
		{[]int{0}, []bool{true}, 0},
		{[]int{1}, []bool{true}, 1},
		{[]int{math.MaxInt}, []bool{true}, math.MaxInt},
		{[]int{-1}, []bool{false}, -1},
		{[]int{math.MinInt}, []bool{false}, -1},
		{[]int{-1, 0}, []bool{false, true}, 0},
		{[]int{0, 0}, []bool{true, false}, 0},
		{[]int{0, 1}, []bool{true, true}, 1},
		{[]int{0, -1}, []bool{true, false}, 0},
		{[]int{5, 5, 4, 6}, []bool{true, false, false, true}, 6},
		{[]int{5, 0, -1, 5}, []bool{true, false, false, false}, 5},
		{[]int{1, 2, 3}, []bool{true, true, true}, 3},
		{[]int{3, 2, 1}, []bool{true, false, false}, 3},
		{[]int{math.MaxInt, math.MaxInt, 0}, []bool{true, false, false}, math.MaxInt},
		{[]int{1 << 32, 1, 1<<32 + 1}, []bool{true, false, true}, 1<<32 + 1}, // no number is cut
	}
	for _, client := range near() {
		for _, y := range tests {
			x := New()
			for i, seq := range y.seqs {
				r := told(client, seq, "v"+strconv.Itoa(i))
				before := x.All()
				if got := x.Note(r); got != y.want[i] {
					t.Fatalf("client %d: Note of %v, the %d-th: %v, want %v", client, y.seqs, i, got, y.want[i])
				}
				if y.want[i] {
					has(t, y.seqs, x, []Last{{seq, r}})
				} else {
					has(t, "a note that is refused", x, before)
				}
			}
			if y.last < 0 {
				has(t, y.seqs, x, nil)
			} else if l := x.All(); len(l) != 1 || l[0].Seq != y.last || l[0].Reply.Seq != y.last || l[0].Reply.Client != client {
				t.Errorf("%v: %+v, want one of %d, %d", y.seqs, l, client, y.last)
			}
		}
	}
}

func TestP12_1NoteTakesTheWholeReply(t *testing.T) {
	for _, r := range []api.Reply{
		{}, full(3, 4), {Seq: 1, Err: -1}, {Seq: 1, Err: math.MaxInt}, {Seq: 1, Found: true}, {Seq: 1, More: true},
		{Seq: 1, Val: "\xff\x00", Next: strings.Repeat("x", 1<<17)}, {Seq: 1, L: []api.Record{}}, {Seq: 1, L: make([]api.Record, 1000)},
	} {
		x := table(r)
		sees(t, x, r.Client, r.Seq, r, 1)
		has(t, "a reply", x, []Last{{r.Seq, r}})
		if x.Note(api.Reply{Client: r.Client, Seq: r.Seq, Val: "another", L: []api.Record{{}}}) {
			t.Errorf("a second answer of %d was taken", r.Seq)
		}
		sees(t, x, r.Client, r.Seq, r, 1)
		next := reply(r.Client, r.Seq+1) // nothing of the one before stays in it
		if !x.Note(next) {
			t.Errorf("Note of the next number: false")
		}
		sees(t, x, r.Client, r.Seq+1, next, 1)
		sees(t, x, r.Client, r.Seq, api.Reply{}, 2)
	}
}

func TestP12_1ClientsApart(t *testing.T) {
	x := New()
	for i, client := range near() {
		if !x.Note(told(client, i, "a")) {
			t.Errorf("Note of %d: false", client)
		}
	}
	for i, client := range near() {
		sees(t, x, client, i, told(client, i, "a"), 1)
		sees(t, x, client, i+1, api.Reply{}, 0)
		sees(t, x, client, i-1, api.Reply{}, 2)
	}
	x.Note(told(0, 100, "b"))
	for i, client := range near() {
		if client != 0 {
			sees(t, x, client, i, told(client, i, "a"), 1)
		}
	}
	sees(t, x, 0, 100, told(0, 100, "b"), 1)
}

func TestP12_1AllIsByClient(t *testing.T) {
	clients := []int{math.MinInt, -7, -1, 0, 1, 3, 20, 100, math.MaxInt}
	var want []Last
	for i, client := range clients {
		want = append(want, last(client, i, "v"))
	}
	roll := dice()
	for range 200 { // in whatever order they were noted
		l := slices.Clone(want)
		for i := range l {
			j := i + roll(len(l)-i)
			l[i], l[j] = l[j], l[i]
		}
		x := New()
		for _, y := range l {
			x.Note(y.Reply)
		}
		has(t, l, x, want)
	}
}

func TestP12_1Set(t *testing.T) {
	tests := []struct {
		name    string
		l, want []Last
	}{
		{"nil", nil, nil},
		{"none", []Last{}, nil},
		{"one", []Last{last(1, 5, "a")}, []Last{last(1, 5, "a")}},
		{"by client", []Last{last(2, 5, "a"), last(-1, 0, "b"), last(1, 7, "c")}, []Last{last(-1, 0, "b"), last(1, 7, "c"), last(2, 5, "a")}},
		{"a client's, rising", []Last{last(1, 5, "a"), last(1, 6, "b")}, []Last{last(1, 6, "b")}},
		{"a client's, falling", []Last{last(1, 6, "a"), last(1, 5, "b")}, []Last{last(1, 6, "a")}},
		{"a client's, alike", []Last{last(1, 5, "a"), last(1, 5, "b")}, []Last{last(1, 5, "a")}},
		{"below 0", []Last{last(1, -1, "a")}, nil},
		{"below 0 ahead", []Last{last(1, -1, "a"), last(1, 0, "b"), last(2, math.MinInt, "c")}, []Last{last(1, 0, "b")}},
		{"a Seq that is not its Reply's", []Last{{9, told(1, 5, "a")}, {0, told(1, 6, "b")}, {-1, told(2, 1, "c")}, {1, told(3, -1, "d")}}, []Last{last(1, 6, "b"), last(2, 1, "c")}},
		{"full", []Last{{4, full(3, 4)}}, []Last{{4, full(3, 4)}}},
	}
	for _, y := range tests {
		for _, x := range []*Table{New(), {}, table(told(1, 100, "old"), told(7, 0, "old")), table(told(1, 5, "old"))} {
			x.Set(y.l)
			has(t, y.name, x, y.want)
			for _, w := range y.want {
				sees(t, x, w.Reply.Client, w.Seq, w.Reply, 1)
			}
			sees(t, x, 7, 0, api.Reply{}, 0) // what there was is gone
			x.Set(x.All())
			has(t, y.name+", by All", x, y.want)
			x.Set(nil)
			has(t, y.name+", and nil", x, nil)
			if !x.Note(reply(1, 0)) {
				t.Errorf("%s: Note behind Set(nil): false", y.name)
			}
		}
	}
}

func TestP12_1Merge(t *testing.T) {
	tests := []struct {
		name       string
		a, b, want []Last
	}{
		{"nil", nil, nil, nil},
		{"none", []Last{}, []Last{}, nil},
		{"a alone", []Last{last(1, 5, "a")}, nil, []Last{last(1, 5, "a")}},
		{"b alone", nil, []Last{last(1, 5, "b")}, []Last{last(1, 5, "b")}},
		{"a's is greater", []Last{last(1, 6, "a")}, []Last{last(1, 5, "b")}, []Last{last(1, 6, "a")}},
		{"b's is greater", []Last{last(1, 5, "a")}, []Last{last(1, 6, "b")}, []Last{last(1, 6, "b")}},
		{"alike", []Last{last(1, 5, "a")}, []Last{last(1, 5, "b")}, []Last{last(1, 5, "a")}},
		{"alike, of noughts", []Last{last(0, 0, "a")}, []Last{last(0, 0, "b")}, []Last{last(0, 0, "a")}},
		{"other clients", []Last{last(2, 1, "a")}, []Last{last(1, 9, "b")}, []Last{last(1, 9, "b"), last(2, 1, "a")}},
		{"each of some", []Last{last(1, 5, "a"), last(2, 5, "a"), last(3, 5, "a")}, []Last{last(2, 6, "b"), last(3, 4, "b"), last(4, 0, "b")}, []Last{last(1, 5, "a"), last(2, 6, "b"), last(3, 5, "a"), last(4, 0, "b")}},
		{"not by client", []Last{last(9, 1, "a"), last(-3, 2, "a")}, []Last{last(4, 1, "b"), last(-4, 2, "b")}, []Last{last(-4, 2, "b"), last(-3, 2, "a"), last(4, 1, "b"), last(9, 1, "a")}},
		{"more of a client in a", []Last{last(1, 5, "a"), last(1, 7, "c"), last(1, 6, "d")}, []Last{last(1, 6, "b")}, []Last{last(1, 7, "c")}},
		{"more of a client in b", []Last{last(1, 5, "a")}, []Last{last(1, 6, "b"), last(1, 7, "c"), last(1, 2, "d")}, []Last{last(1, 7, "c")}},
		{"alike in one list", []Last{last(1, 5, "a"), last(1, 5, "b")}, []Last{last(2, 5, "c"), last(2, 5, "d")}, []Last{last(1, 5, "a"), last(2, 5, "c")}},
		{"below 0", []Last{last(1, -2, "a"), last(2, -1, "a"), last(3, math.MinInt, "a")}, []Last{last(1, -1, "b"), last(2, 0, "b")}, []Last{last(1, -1, "b"), last(2, 0, "b"), last(3, math.MinInt, "a")}},
		{"far apart", []Last{last(1, math.MinInt, "a"), last(2, math.MaxInt, "a")}, []Last{last(1, math.MaxInt, "b"), last(2, math.MinInt, "b")}, []Last{last(1, math.MaxInt, "b"), last(2, math.MaxInt, "a")}},
		{"clients far apart", []Last{last(math.MaxInt, 1, "a"), last(0, 1, "a")}, []Last{last(math.MinInt, 1, "b"), last(1<<32, 1, "b")}, []Last{last(math.MinInt, 1, "b"), last(0, 1, "a"), last(1<<32, 1, "b"), last(math.MaxInt, 1, "a")}},
		{"a Seq that is not its Reply's", []Last{{9, told(1, 5, "a")}}, []Last{{8, told(1, 10, "b")}}, []Last{{9, told(1, 5, "a")}}},
		{"full", []Last{{4, full(1, 4)}}, []Last{{5, full(1, 5)}, {2, full(2, 2)}}, []Last{{5, full(1, 5)}, {2, full(2, 2)}}},
	}
	for _, y := range tests {
		for range 2 {
			if l := Merge(y.a, y.b); !same(l, y.want) {
				t.Errorf("%s: %+v, want %+v", y.name, l, y.want)
			}
		}
		if l := plainMerge(y.a, y.b); !same(l, y.want) {
			t.Errorf("%s, written out plainly: %+v, want %+v", y.name, l, y.want)
		}
	}
}

// some answers a list of any answers of few clients.
func some(roll func(most int) int) []Last {
	var l []Last
	for i := range roll(7) {
		l = append(l, last(roll(4)-1, roll(5)-1, strconv.Itoa(i)+" of "+strconv.Itoa(roll(1000))))
	}
	return l
}

func TestP12_1MergeAsItIsWrittenPlainly(t *testing.T) {
	roll := dice()
	for range 20000 {
		a, b := some(roll), some(roll)
		if got, want := Merge(a, b), plainMerge(a, b); !same(got, want) {
			t.Fatalf("Merge(%+v, %+v): %+v, want %+v", a, b, got, want)
		}
	}
}

func TestP12_1MergeOfTables(t *testing.T) {
	a := table(told(1, 5, "a"), told(2, 5, "a"))
	b := table(told(1, 6, "b"), told(2, 5, "b"), told(3, 0, "b"))
	x := New()
	x.Set(Merge(a.All(), b.All()))
	has(t, "both", x, []Last{last(1, 6, "b"), last(2, 5, "a"), last(3, 0, "b")})
	has(t, "one", a, []Last{last(1, 5, "a"), last(2, 5, "a")})
	has(t, "the other", b, []Last{last(1, 6, "b"), last(2, 5, "b"), last(3, 0, "b")})
}

func TestP12_1AllShortRowsOfNotes(t *testing.T) {
	notes := []api.Reply{told(0, -1, "a"), told(0, 0, "b"), told(0, 1, "c"), told(0, 1, "d"), told(0, 2, "e"), told(1, 0, "f"), told(1, 2, "g"), told(-1, 1, "h")}
	var step func(l []api.Reply)
	step = func(l []api.Reply) {
		x, p := New(), plain(nil)
		for _, r := range l {
			if got, want := x.Note(r), p.note(r); got != want {
				t.Fatalf("%+v: Note: %v, want %v", l, got, want)
			}
		}
		has(t, l, x, p.all())
		for client := -1; client <= 2; client++ {
			for seq := -2; seq <= 3; seq++ {
				r, told := p.see(client, seq)
				sees(t, x, client, seq, r, told)
			}
		}
		if len(l) == 4 {
			return
		}
		for _, r := range notes {
			step(append(l[:len(l):len(l)], r))
		}
	}
	step(nil)
}

func TestP12_1AsItIsWrittenPlainly(t *testing.T) {
	roll := dice()
	for range 300 {
		x, p := New(), plain(nil)
		for range 100 {
			client, seq := roll(5)-1, roll(20)-2
			switch roll(12) {
			case 0:
				l := some(roll)
				x.Set(l)
				p = nil
				for _, y := range l {
					p.note(y.Reply)
				}
			case 1, 2, 3:
				r := full(client, seq)
				r.Val, r.L = strconv.Itoa(roll(1000)), r.L[:roll(4)]
				if got, want := x.Note(r), p.note(r); got != want {
					t.Fatalf("Note(%+v): %v, want %v", r, got, want)
				}
			default:
				r, told := p.see(client, seq)
				sees(t, x, client, seq, r, told)
			}
			has(t, "any calls", x, p.all())
		}
	}
}

func TestP12_1TwoTablesHaveNothingInCommon(t *testing.T) {
	a, b := New(), New()
	a.Note(told(1, 5, "a"))
	has(t, "the other", b, nil)
	b.Note(told(1, 3, "b"))
	b.Note(told(2, 0, "b"))
	has(t, "one", a, []Last{last(1, 5, "a")})
	a.Set(b.All())
	a.Note(told(1, 4, "a"))
	has(t, "the other", b, []Last{last(1, 3, "b"), last(2, 0, "b")})
	b.Set(nil)
	has(t, "one", a, []Last{last(1, 4, "a"), last(2, 0, "b")})
}

func TestP12_1NoClientIsLetGo(t *testing.T) {
	const many = 100000
	x := New()
	for i := range many {
		if !x.Note(told(i*7919%many, i, "a")) {
			t.Fatalf("Note of client %d: false", i*7919%many)
		}
	}
	l := x.All()
	if len(l) != many {
		t.Fatalf("%d answers, want %d", len(l), many)
	}
	for i := range many {
		client := i * 7919 % many
		if r, told := x.See(client, i); told != 1 || r.Client != client || r.Seq != i {
			t.Fatalf("See(%d, %d): %+v, %d", client, i, r, told)
		}
		if l[i].Reply.Client != i {
			t.Fatalf("the %d-th of All is client %d's", i, l[i].Reply.Client)
		}
	}
	slices.Reverse(l)
	if l := Merge(l, x.All()); !same(l, x.All()) {
		t.Errorf("Merge of much: %d answers", len(l))
	}
	x.Set(l)
	if y := x.All(); len(y) != many || y[0].Reply.Client != 0 {
		t.Errorf("Set of much: %d answers", len(y))
	}
}

// heap tells how many bytes are in use.
func heap() int64 {
	var m runtime.MemStats
	runtime.GC()
	runtime.ReadMemStats(&m)
	return int64(m.HeapAlloc)
}

func TestP12_1WhatIsNoClientsLastIsLetGo(t *testing.T) {
	for name, do := range map[string]func(x *Table, seq int){
		"Note":                   func(x *Table, seq int) { x.Note(reply(0, seq)) },
		"Set":                    func(x *Table, seq int) { x.Set([]Last{last(0, seq, "")}) },
		"Note of none of a list": func(x *Table, seq int) { x.Note(api.Reply{Seq: seq, L: make([]api.Record, 1<<16)[:0]}) },
	} {
		x, before := New(), heap()
		var l []*Table
		for range 8 {
			y := New()
			for seq := range 4 {
				y.Note(api.Reply{Seq: seq * 2, L: make([]api.Record, 1<<16)})
				do(y, seq*2+1)
			}
			l = append(l, y)
		}
		if kept := heap() - before; kept > 1<<20 {
			t.Errorf("%s: %d bytes are kept", name, kept)
		}
		for _, y := range l {
			if a := y.All(); len(a) != 1 || a[0].Seq != 7 {
				t.Errorf("%s: %+v", name, a)
			}
		}
		has(t, "another", x, nil)
	}
}

// room answers a list of n records, with spare room that is written.
func room(n int) []api.Record {
	l := make([]api.Record, n+3)
	for i := range l {
		l[i] = api.Record{Text: "t" + strconv.Itoa(i), Val: "v"}
	}
	return l[:n]
}

// scribble writes over a list, its spare room too.
func scribble(l []api.Record) {
	for i := range l[:cap(l)] {
		l[:cap(l)][i] = api.Record{Text: "scribbled"}
	}
}

func scribbleAll(l []Last) {
	for i := range l[:cap(l)] {
		scribble(l[:cap(l)][i].Reply.L)
		l[:cap(l)][i] = Last{-5, told(-5, -5, "scribbled")}
	}
}

func TestR4WhatIsHandedInIsNotChangedNorKept(t *testing.T) {
	for name, do := range map[string]func(x *Table, r api.Reply){
		"Note":              func(x *Table, r api.Reply) { x.Note(r) },
		"Set":               func(x *Table, r api.Reply) { x.Set([]Last{{r.Seq, r}}) },
		"Set of Merge of a": func(x *Table, r api.Reply) { x.Set(Merge([]Last{{r.Seq, r}}, nil)) },
		"Set of Merge of b": func(x *Table, r api.Reply) { x.Set(Merge(nil, []Last{{r.Seq, r}})) },
	} {
		for _, n := range []int{0, 1, 3} {
			x, r, want := New(), told(1, 5, "a"), told(1, 5, "a")
			r.L, want.L = room(n), room(n)
			do(x, r)
			if !same(r.L[:cap(r.L)], room(n)[:cap(r.L)]) {
				t.Errorf("%s changed what it was handed to %+v", name, r.L[:cap(r.L)])
			}
			scribble(r.L)
			sees(t, x, 1, 5, want, 1)
			has(t, name, x, []Last{{5, want}})
		}
	}
}

func TestR4ListsOfLastAreNotChangedNorKept(t *testing.T) {
	const most = 4
	whole := func(val string) []Last { // of which the first few are handed in, and the others are spare room
		l := []Last{last(3, 1, val), last(1, 1, val), last(1, 2, val), last(9, 9, val), last(8, 8, val)}
		for i := range l {
			l[i].Reply.L = room(i)
		}
		return l
	}
	for m := range most {
		for n := range most {
			a, b := whole("a"), whole("b")
			got, want := Merge(a[:m], b[:n]), plainMerge(whole("a")[:m], whole("b")[:n])
			x, y := New(), table(replies(whole("a")[:m])...)
			x.Set(a[:m])
			if !same(a, whole("a")) || !same(b, whole("b")) {
				t.Errorf("%d, %d: what was handed in was changed to %+v, %+v", m, n, a, b)
			}
			scribbleAll(a)
			scribbleAll(b)
			if !same(got, want) {
				t.Errorf("%d, %d: Merge kept what it was handed: %+v, want %+v", m, n, got, want)
			}
			has(t, "Set", x, y.All())
		}
	}
}

func TestR4WhatIsAnsweredIsNewMemory(t *testing.T) {
	for _, n := range []int{0, 1, 3} {
		one, other := told(1, 5, "a"), told(2, 6, "b")
		one.L, other.L = room(n), room(n)
		want := []Last{{5, one}, {6, other}}
		x := table(one, other)
		r, _ := x.See(1, 5)
		again, _ := x.See(1, 5)
		all, both := x.All(), x.All()
		scribble(r.L)
		if !same(again, one) {
			t.Errorf("two answers of See have memory in common")
		}
		scribbleAll(all)
		if !same(both, want) {
			t.Errorf("two answers of All have memory in common")
		}
		sees(t, x, 1, 5, one, 1)
		has(t, "answers that are scribbled over", x, want)
		x.Note(told(1, 7, "c"))
		x.Set(nil)
		if !same(again, one) || !same(both, want) {
			t.Errorf("what was answered was changed by Note or Set: %+v, %+v", again, both)
		}
	}
}

func TestR4NoTwoListsOfAnAnswerShareMemory(t *testing.T) {
	l := room(3)
	a, b := told(1, 5, "a"), told(2, 5, "b")
	a.L, b.L = l, l[:2]
	x := table(a, b)
	in := []Last{{5, a}, {5, b}}
	for name, got := range map[string][]Last{"All": x.All(), "Merge": Merge(in, nil), "Merge of both": Merge(in[:1], in[1:])} {
		if len(got) != 2 {
			t.Fatalf("%s: %+v", name, got)
		}
		scribble(got[0].Reply.L)
		if !same(got[1].Reply.L, room(2)) {
			t.Errorf("%s: lists of one answer have memory in common", name)
		}
	}
}

func TestR5TheSameWhateverWasAskedAhead(t *testing.T) {
	x, y := New(), New()
	for i := range 50 {
		r := full(i*31%17, i)
		x.Note(r)
		y.Note(r)
		y.See(i, i)
		y.All()
		y.Note(r)
		y.Note(reply(i*31%17, -1))
		Merge(y.All(), x.All())
	}
	if !same(x.All(), y.All()) {
		t.Errorf("asked: %+v, not asked: %+v", y.All(), x.All())
	}
}

func TestR7NilTable(t *testing.T) {
	var x *Table
	for range 2 {
		for _, client := range near() {
			for _, seq := range near() {
				if x.Note(full(client, seq)) {
					t.Errorf("Note of %d, %d on nil: true", client, seq)
				}
				sees(t, x, client, seq, api.Reply{}, 0)
			}
		}
		x.Set(nil)
		x.Set([]Last{last(1, 5, "a")})
		has(t, "nil", x, nil)
	}
}

func TestR7TableOfNoNew(t *testing.T) {
	x := &Table{}
	if !x.Note(full(1, 0)) {
		t.Fatal("Note: false")
	}
	has(t, "a table that is zero", x, []Last{{0, full(1, 0)}})
	x = &Table{}
	x.Set([]Last{last(1, 5, "a")})
	has(t, "a table that is zero, by Set", x, []Last{last(1, 5, "a")})
}
