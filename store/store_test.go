package store

import (
	"cmp"
	"fmt"
	"maps"
	"math"
	"reflect"
	"slices"
	"strings"
	"testing"

	"gazetteer/api"
	"gazetteer/medium"
	"gazetteer/once"
	"gazetteer/parcel"
	"gazetteer/sortkey"
)

// dice answers numbers that look like any, the same each time.
func dice(state uint64) func(most int) int {
	return func(most int) int {
		state = state*6364136223846793005 + 1442695040888963407
		return int(state>>33) % most
	}
}

// table has é taken apart, letters from a to e, w that weighs much, and U+00AD that weighs nothing.
func table() api.Table {
	t := api.Table{
		Lore: []api.Lore{{R: 0xe9, To: []rune{'e', 0x301}}, {R: 0x301, Class: 230}},
		Rows: []api.Row{{Of: []rune{'w'}, To: slices.Repeat([]api.Element{{P: 20, S: 2, T: 2}}, 4)}, {Of: []rune{0xad}}, {Of: []rune{0x301}, To: []api.Element{{S: 3, T: 2}}}},
	}
	for i, r := range "abcde" {
		row := api.Row{Of: []rune{r}, To: []api.Element{{P: 10 + i, S: 2, T: 2}}}
		t.Rows = slices.Insert(t.Rows, i, row)
	}
	return t
}

// Short names for what stands in long rows.

func key(text string) string {
	k, e := sortkey.Make(table(), text)
	if e != api.OK {
		panic("no key: " + text)
	}
	return k
}

// keys answers the span of the texts from one on that are ahead of another (none: of all behind).
func keys(from, to string) api.Span {
	s := api.Span{}
	if from != "" {
		s.From = key(from)
	}
	if to != "" {
		s.To = key(to)
	}
	return s
}

func all() api.Span { return api.Span{} }

func rec(text, val string) api.Record { return api.Record{Text: text, Val: val} }

func recs(l ...string) []api.Record {
	var out []api.Record
	for _, text := range l {
		out = append(out, rec(text, "v"+text))
	}
	return out
}

func last(client, seq int) once.Last {
	return once.Last{Seq: seq, Reply: api.Reply{Client: client, Seq: seq, Found: true}}
}

func aPut(client, seq int, text, val string) api.Ask {
	return api.Ask{Do: 1, Client: client, Seq: seq, Text: text, Val: val}
}

func aDelete(client, seq int, text string) api.Ask {
	return api.Ask{Do: 2, Client: client, Seq: seq, Text: text}
}

func aGet(text string) api.Ask { return api.Ask{Do: 3, Text: text} }

func aPage(from, to string, limit int) api.Ask {
	return api.Ask{Do: 4, From: from, To: to, Limit: limit}
}

// open answers a store on m.
func open(t *testing.T, m *medium.Medium, full int) *Store {
	t.Helper()
	s, e := Open(table(), m, full)
	if s == nil || e != api.OK {
		t.Fatalf("Open: %v, %v", s, e)
	}
	return s
}

// holding answers a store, and its medium, that holds all keys in epoch 1, with l at first.
func holding(t *testing.T, full int, l ...api.Record) (*Store, *medium.Medium) {
	t.Helper()
	m := medium.New()
	s := open(t, m, full)
	want(t, "Hold of all", s.Hold(all(), 1, l, nil), api.OK)
	return s, m
}

func want(t *testing.T, what string, got, want any) {
	t.Helper()
	if !reflect.DeepEqual(got, want) {
		t.Errorf("%s:\n%+v, want\n%+v", what, got, want)
	}
}

// did is what Do answers.
type did struct {
	r  api.Reply
	ok bool
}

func do(s *Store, a api.Ask) did {
	r, ok := s.Do(a)
	return did{r, ok}
}

// froze is what Freeze answers.
type froze struct {
	l    []api.Record
	last []once.Last
	e    api.Errno
}

func freeze(s *Store, x api.Span, epoch int) froze {
	l, last, e := s.Freeze(x, epoch)
	return froze{l, last, e}
}

func errs(l ...api.Errno) []api.Errno { return l }

// The promises written out plainly: maps, and lists gone through from the first item on.

type plainPart struct {
	span   api.Span
	epoch  int
	frozen bool
	texts  map[string]api.Record
	last   map[int]api.Reply
}

type plain struct {
	full, dropped int
	parts         []*plainPart
}

func has(s api.Span, key string) bool {
	return strings.Compare(s.From, key) <= 0 && (len(s.To) == 0 || strings.Compare(key, s.To) < 0)
}

func (p *plain) find(key string) *plainPart {
	for _, x := range p.parts {
		if has(x.span, key) {
			return x
		}
	}
	return nil
}

func (p *plain) just(x api.Span, epoch int) *plainPart {
	for _, y := range p.parts {
		if y.span == x && y.epoch == epoch {
			return y
		}
	}
	return nil
}

func (p *plain) hold(x api.Span, epoch int, l []api.Record, last []once.Last) api.Errno {
	n := &plainPart{span: x, epoch: epoch, texts: map[string]api.Record{}, last: map[int]api.Reply{}}
	if x.To != "" && x.To <= x.From || epoch <= 0 {
		return api.ErrArg
	}
	for _, r := range l {
		k, e := sortkey.Make(table(), r.Text)
		if _, twice := n.texts[k]; e != api.OK || twice || len(r.Val) > 64 || !has(x, k) {
			return api.ErrArg
		}
		n.texts[k] = r
	}
	for _, y := range last {
		if _, e := parcel.Reply(y.Reply); e != api.OK || y.Seq != y.Reply.Seq {
			return api.ErrArg
		}
		if old, ok := n.last[y.Reply.Client]; !ok || y.Seq > old.Seq {
			n.last[y.Reply.Client] = y.Reply
		}
	}
	if p.just(x, epoch) != nil {
		return api.OK
	}
	if epoch <= p.dropped {
		return api.ErrEpoch
	}
	for _, y := range p.parts { // of two spans that meet one has the other one's From
		if has(x, y.span.From) || has(y.span, x.From) {
			return api.ErrState
		}
	}
	p.parts = append(p.parts, n)
	slices.SortFunc(p.parts, func(a, b *plainPart) int { return cmp.Compare(a.span.From, b.span.From) })
	return api.OK
}

func (p *plain) freeze(x api.Span, epoch int) froze {
	y := p.just(x, epoch)
	if y == nil {
		return froze{e: api.ErrNone}
	}
	y.frozen = true
	return froze{y.records(), y.answers(), api.OK}
}

func (p *plain) drop(x api.Span, epoch int) api.Errno {
	y := p.just(x, epoch)
	if y == nil {
		return api.ErrNone
	}
	if !y.frozen {
		return api.ErrState
	}
	p.parts = slices.DeleteFunc(p.parts, func(z *plainPart) bool { return z == y })
	if epoch > p.dropped {
		p.dropped = epoch
	}
	return api.OK
}

func (p *plain) list() []Held {
	var l []Held
	for _, x := range p.parts {
		l = append(l, Held{x.span, x.epoch, x.frozen, len(x.texts)})
	}
	return l
}

func (p *plain) do(a api.Ask) did {
	r := api.Reply{Client: a.Client, Seq: a.Seq}
	answered := func(e api.Errno, ok bool) did { r.Err = e; return did{r, ok} }
	if a.Do < 1 || a.Do > 4 || a.Client < 0 || a.Client > 3 || a.Seq < 0 {
		return answered(api.ErrArg, true)
	}
	if a.Do == 4 {
		return p.page(a)
	}
	k, e := sortkey.Make(table(), a.Text)
	if e != api.OK {
		return answered(e, true)
	}
	if a.Do == 1 && len(a.Val) > 64 {
		return answered(api.ErrLong, true)
	}
	x := p.find(k)
	if x == nil || x.frozen {
		return answered(api.ErrEpoch, false)
	}
	old, found := x.texts[k]
	if a.Do == 3 {
		r.Found, r.Val = found, old.Val
		return did{r, true}
	}
	if before, ok := x.last[a.Client]; ok && before.Seq >= a.Seq {
		if before.Seq == a.Seq {
			return did{before, true}
		}
		return did{}
	}
	switch {
	case a.Do == 1 && !found && len(x.texts) >= p.full:
		r.Err = api.ErrFull
	case a.Do == 1:
		r.Found, x.texts[k] = found, rec(a.Text, a.Val)
	default:
		r.Found = found
		delete(x.texts, k)
	}
	x.last[a.Client] = r
	return did{r, true}
}

func (p *plain) page(a api.Ask) did {
	r := api.Reply{Client: a.Client, Seq: a.Seq}
	if a.Limit < 1 || a.Limit > 16 {
		r.Err = api.ErrArg
		return did{r, true}
	}
	x := p.find(a.From)
	if x == nil || x.frozen {
		r.Err = api.ErrEpoch
		return did{r, false}
	}
	var due []string
	for k := range x.texts {
		if k >= a.From && (a.To == "" || k < a.To) {
			due = append(due, k)
		}
	}
	slices.Sort(due)
	for i, k := range due {
		if i == a.Limit {
			r.Next = k
			break
		}
		r.L = append(r.L, x.texts[k])
	}
	if len(due) <= a.Limit {
		r.Next = x.span.To
		if r.Next == "" || a.To != "" && a.To < r.Next {
			r.Next = a.To
		}
	}
	if a.To != "" {
		r.More = r.Next < a.To
	} else {
		r.More = r.Next != ""
	}
	return did{r, true}
}

func (x *plainPart) records() []api.Record {
	var l []api.Record
	for _, k := range slices.Sorted(maps.Keys(x.texts)) {
		l = append(l, x.texts[k])
	}
	return l
}

func (x *plainPart) answers() []once.Last {
	var l []once.Last
	for _, c := range slices.Sorted(maps.Keys(x.last)) {
		l = append(l, once.Last{Seq: x.last[c].Seq, Reply: x.last[c]})
	}
	return l
}

// whole tells all that there is.
func (p *plain) whole() string {
	s := fmt.Sprintf("dropped %d\n", p.dropped)
	for _, x := range p.parts {
		s += fmt.Sprintf("%q %d %v %+v %+v\n", x.span, x.epoch, x.frozen, x.records(), x.answers())
	}
	return s
}

func whole(s *Store) string {
	out := fmt.Sprintf("dropped %d\n", s.dropped)
	for _, x := range s.l {
		out += fmt.Sprintf("%q %d %v %+v %+v\n", x.span, x.epoch, x.frozen, x.all(), x.last.All())
	}
	return out
}

// checkOpen tells where a store that is opened on a copy of m is not that one.
func checkOpen(t *testing.T, what string, m *medium.Medium, full int, want string) {
	t.Helper()
	x := m.Copy()
	s := open(t, x, full)
	if got := whole(s); got != want {
		t.Fatalf("%s, opened anew:\n%s, want\n%s", what, got, want)
	}
	if x.Loose() != 0 {
		t.Fatalf("%s, opened anew: %d bytes are loose", what, x.Loose())
	}
}

func TestExample(t *testing.T) {
	s, _ := holding(t, 4)
	want(t, "put é", do(s, aPut(0, 1, "é", "x")), did{api.Reply{Seq: 1}, true})
	want(t, "get e U+0301", do(s, aGet("e\u0301")), did{api.Reply{Found: true, Val: "x"}, true})
}

func TestP15_1OpenOfWhatMayNotBe(t *testing.T) {
	bad := table()
	bad.Top = -1
	m := medium.New()
	m.Append([]byte("ab"))
	m.Sync()
	m.Append([]byte("c"))
	tests := []struct {
		what string
		t    api.Table
		m    *medium.Medium
		full int
		want api.Errno
	}{
		{"a table that may not be", bad, m, 1, api.ErrTable},
		{"a table, ahead of all", bad, nil, 0, api.ErrTable},
		{"no medium", table(), nil, 1, api.ErrArg},
		{"full 0", table(), m, 0, api.ErrArg},
		{"full below 0", table(), m, -1, api.ErrArg},
		{"full as small as may be", table(), m, math.MinInt, api.ErrArg},
		{"full above MaxFull", table(), m, api.MaxFull + 1, api.ErrArg},
		{"full as great as may be", table(), m, math.MaxInt, api.ErrArg},
	}
	for _, x := range tests {
		if s, e := Open(x.t, x.m, x.full); s != nil || e != x.want {
			t.Errorf("%s: %v, %v, want %v", x.what, s, e, x.want)
		}
		if string(m.Bytes()) != "abc" || m.Loose() != 1 {
			t.Errorf("%s: the medium is changed", x.what)
		}
	}
	for _, full := range []int{1, 2, api.MaxFull} {
		s := open(t, m.Copy(), full)
		want(t, "a medium of no deeds", s.List(), []Held(nil))
	}
	if s, e := Open(api.Table{}, medium.New(), 1); s == nil || e != api.OK {
		t.Errorf("a table of nothing: %v, %v", s, e)
	}
}

func TestP15_1Hold(t *testing.T) {
	s := open(t, medium.New(), 2)
	want(t, "at first", s.List(), []Held(nil))
	want(t, "holds", errs(
		s.Hold(keys("c", "d"), 3, recs("cb", "c", "ca"), []once.Last{last(2, 5), last(0, 7)}),
		s.Hold(keys("", "b"), 7, nil, nil),
		s.Hold(keys("d", ""), 3, recs("e"), nil),
	), errs(0, 0, 0))
	want(t, "List", s.List(), []Held{{keys("", "b"), 7, false, 0}, {keys("c", "d"), 3, false, 3}, {keys("d", ""), 3, false, 1}})
	want(t, "gets", []did{do(s, aGet("ca")), do(s, aGet("cc")), do(s, aGet("e")), do(s, aGet("a")), do(s, aGet("b"))}, []did{
		{api.Reply{Found: true, Val: "vca"}, true}, {api.Reply{}, true}, {api.Reply{Found: true, Val: "ve"}, true}, {api.Reply{}, true}, {api.Reply{Err: api.ErrEpoch}, false},
	})
	want(t, "Freeze", freeze(s, keys("c", "d"), 3), froze{recs("c", "ca", "cb"), []once.Last{last(0, 7), last(2, 5)}, 0})
}

func TestP15_1HoldOfWhatMayNotBe(t *testing.T) {
	long := strings.Repeat("x", 65)
	reply := func(change func(r *api.Reply)) []once.Last {
		l := []once.Last{last(0, 1), last(1, 4)}
		change(&l[1].Reply)
		return l
	}
	x := keys("b", "d")
	tests := []struct {
		what  string
		x     api.Span
		epoch int
		l     []api.Record
		last  []once.Last
		want  api.Errno
	}{
		{"an Empty span", api.Span{From: x.From, To: x.From}, 1, nil, nil, api.ErrArg},
		{"a span that ends ahead of its beginning", api.Span{From: x.To, To: x.From}, 1, nil, nil, api.ErrArg},
		{"epoch 0", x, 0, nil, nil, api.ErrArg},
		{"epoch -1", x, -1, nil, nil, api.ErrArg},
		{"the least epoch", x, math.MinInt, nil, nil, api.ErrArg},
		{"a record of no text", x, 1, recs("b", "\xff"), nil, api.ErrArg},
		{"a record of half a rune", x, 1, recs("b\xc3"), nil, api.ErrArg},
		{"a record of a text that is too long", x, 1, []api.Record{rec("b"+long, "")}, nil, api.ErrArg},
		{"a record whose key is as long as may be", x, 1, recs("b\u0301" + strings.Repeat("w", 26)), nil, api.OK},
		{"a record whose key is too long", x, 1, recs("b\u0301\u0301" + strings.Repeat("w", 26)), nil, api.ErrArg},
		{"a long text", x, 1, []api.Record{rec("b"+strings.Repeat("\u00ad", 31), "")}, nil, api.OK},
		{"a value that is too long", x, 1, []api.Record{rec("b", "v"), rec("c", long)}, nil, api.ErrArg},
		{"a value as long as may be", x, 1, []api.Record{rec("b", "v"), rec("c", long[1:])}, nil, api.OK},
		{"a record ahead of the span", x, 1, recs("b", "ae"), nil, api.ErrArg},
		{"a record at its end", x, 1, recs("b", "d"), nil, api.ErrArg},
		{"a record behind it", x, 1, recs("b", "e"), nil, api.ErrArg},
		{"the first and the last", x, 1, recs("b", "ceeee"), nil, api.OK},
		{"a record twice", x, 1, recs("b", "c", "b"), nil, api.ErrArg},
		{"two records of one key", x, 1, recs("c\u00ad", "b", "c"), nil, api.ErrArg},
		{"an empty text in the span", all(), 1, recs(""), nil, api.OK},
		{"an empty text that is not", x, 1, recs(""), nil, api.ErrArg},
		{"texts é and e U+0301", all(), 1, recs("é", "e\u0301"), nil, api.ErrArg},
		{"texts é and e", all(), 1, recs("é", "e"), nil, api.OK},
		{"a Seq that is not its Reply's", x, 1, nil, reply(func(r *api.Reply) { r.Seq = 5 }), api.ErrArg},
		{"a Seq below 0", x, 1, nil, []once.Last{last(0, -1)}, api.ErrArg},
		{"Seq 0", x, 1, nil, []once.Last{last(0, 0)}, api.OK},
		{"the greatest Seq", x, 1, nil, []once.Last{last(0, 1<<28-1)}, api.OK},
		{"one more", x, 1, nil, []once.Last{last(0, 1<<28)}, api.ErrArg},
		{"a client below 0", x, 1, nil, []once.Last{last(-1, 0)}, api.ErrArg},
		{"any client", x, 1, nil, []once.Last{last(1<<28-1, 0)}, api.OK},
		{"an error below 0", x, 1, nil, reply(func(r *api.Reply) { r.Err = -1 }), api.ErrArg},
		{"an error that is none", x, 1, nil, reply(func(r *api.Reply) { r.Err = 99 }), api.OK},
		{"a reply of MaxFrame bytes", x, 1, nil, reply(func(r *api.Reply) { r.Val = strings.Repeat("x", api.MaxFrame-26) }), api.OK},
		{"one of a byte more", x, 1, nil, reply(func(r *api.Reply) { r.Val = strings.Repeat("x", api.MaxFrame-25) }), api.ErrArg},
		{"a client twice", x, 1, nil, []once.Last{last(0, 4), last(0, 3), last(0, 5)}, api.OK},
		{"the greatest epoch", x, 1<<28 - 1, nil, nil, api.OK},
	}
	for _, y := range tests {
		m := medium.New()
		s := open(t, m, 1)
		want(t, y.what, s.Hold(y.x, y.epoch, y.l, y.last), y.want)
		if y.want != api.OK {
			want(t, y.what+", List", s.List(), []Held(nil))
			want(t, y.what+", the medium", len(m.Bytes()), 0)
		} else {
			want(t, y.what+", List", s.List(), []Held{{y.x, y.epoch, false, len(y.l)}})
			checkOpen(t, y.what, m, 1, whole(s))
		}
	}
}

func TestP15_1HoldAgain(t *testing.T) {
	x := keys("b", "d")
	m := medium.New()
	s := open(t, m, 2)
	s.Hold(x, 4, recs("b", "c"), nil)
	was, size := whole(s), len(m.Bytes())
	again := func(what string) {
		want(t, what, errs(
			s.Hold(x, 4, recs("b", "c"), nil), s.Hold(x, 4, nil, nil), s.Hold(x, 4, recs("cc"), []once.Last{last(1, 1)}),
			s.Hold(x, 4, recs("e"), nil), s.Hold(x, 4, nil, []once.Last{{Seq: 1}}), // what may not be goes ahead
		), errs(0, 0, 0, api.ErrArg, api.ErrArg))
		want(t, what+", the store", whole(s), was)
		want(t, what+", the medium", len(m.Bytes()), size)
	}
	again("again")
	s.Freeze(x, 4)
	was, size = whole(s), len(m.Bytes())
	again("again, Frozen")
	s.Hold(keys("", "a"), 4, nil, nil)
	s.Freeze(keys("", "a"), 4)
	s.Drop(keys("", "a"), 4)
	was, size = whole(s), len(m.Bytes())
	again("again, of an epoch that another one was Dropped of")
}

func TestP15_1HoldErrors(t *testing.T) {
	m := medium.New()
	s := open(t, m, 2)
	s.Hold(keys("b", "c"), 5, nil, nil)
	s.Hold(keys("d", "e"), 9, nil, nil)
	want(t, "spans that meet", errs(
		s.Hold(keys("b", "c"), 6, nil, nil), s.Hold(keys("b", "c"), 4, nil, nil), s.Hold(keys("", "ba"), 6, nil, nil), s.Hold(keys("", ""), 6, nil, nil),
		s.Hold(keys("ba", "bb"), 6, nil, nil), s.Hold(keys("bb", ""), 6, nil, nil), s.Hold(keys("c", ""), 6, nil, nil), s.Hold(keys("", "e"), 10, nil, nil),
		s.Hold(keys("b", "ba"), 5, nil, nil), s.Hold(keys("b", "d"), 5, nil, nil), s.Hold(keys("a", "c"), 9, nil, nil),
		s.Hold(keys("b", "c"), 6, recs("a"), nil), // what may not be goes ahead
	), errs(10, 10, 10, 10, 10, 10, 10, 10, 10, 10, 10, 1))
	s.Freeze(keys("b", "c"), 5)
	want(t, "one that meets a Frozen one", s.Hold(keys("b", "c"), 6, nil, nil), api.ErrState)
	want(t, "Drop", s.Drop(keys("b", "c"), 5), api.OK)
	want(t, "epochs", errs(
		s.Hold(keys("b", "c"), 5, nil, nil), s.Hold(keys("b", "c"), 4, nil, nil), s.Hold(keys("", "a"), 1, nil, nil),
		s.Hold(keys("d", "e"), 5, nil, nil), s.Hold(keys("d", "e"), 6, nil, nil), // ErrEpoch goes ahead of ErrState
		s.Hold(keys("b", "c"), 5, recs("a"), nil),
		s.Hold(keys("d", "e"), 9, nil, nil),
		s.Hold(keys("c", "d"), 6, nil, nil), s.Hold(keys("b", "c"), 7, nil, nil),
	), errs(11, 11, 11, 11, 10, 1, 0, 0, 0))
	s.Freeze(keys("c", "d"), 6)
	s.Freeze(keys("b", "c"), 7)
	s.Freeze(keys("d", "e"), 9)
	want(t, "drops", errs(s.Drop(keys("d", "e"), 9), s.Drop(keys("c", "d"), 6)), errs(0, 0))
	want(t, "the greatest epoch ever", errs(s.Hold(keys("d", "e"), 7, nil, nil), s.Hold(keys("d", "e"), 9, nil, nil)), errs(11, 11))
	s = open(t, m, 2)
	want(t, "opened anew", errs(s.Hold(keys("d", "e"), 9, nil, nil), s.Hold(keys("d", "e"), 10, nil, nil), s.Hold(keys("b", "c"), 7, nil, nil), s.Hold(keys("b", "c"), 11, nil, nil)), errs(11, 0, 0, 10))
	want(t, "List", s.List(), []Held{{keys("b", "c"), 7, true, 0}, {keys("d", "e"), 10, false, 0}})
}

func TestP15_1SpansThatTouch(t *testing.T) {
	s := open(t, medium.New(), 2)
	bounds := []string{"", "\x00", "\x00\x00", "a", "a\x00", "b", "\xff", ""}
	for _, i := range []int{3, 0, 6, 1, 5, 2, 4} {
		want(t, "Hold", s.Hold(api.Span{From: bounds[i], To: bounds[i+1]}, 1, nil, nil), api.OK)
	}
	var l []Held
	for i := range 7 {
		l = append(l, Held{Span: api.Span{From: bounds[i], To: bounds[i+1]}, Epoch: 1})
	}
	want(t, "List", s.List(), l)
}

func TestP15_1FreezeAndDrop(t *testing.T) {
	s, m := holding(t, 3, recs("b", "a")...)
	x := keys("b", "c")
	want(t, "of what is not held", []froze{freeze(s, x, 1), freeze(s, all(), 2), freeze(s, all(), 0), freeze(s, api.Span{From: "\x00"}, 1), freeze(s, api.Span{From: "a", To: "a"}, 1), freeze(s, api.Span{To: "\xff"}, 1)}, slices.Repeat([]froze{{e: api.ErrNone}}, 6))
	want(t, "Drop of what is not held", errs(s.Drop(x, 1), s.Drop(all(), 2), s.Drop(all(), 0), s.Drop(all(), -1)), errs(9, 9, 9, 9))
	size := len(m.Bytes())
	want(t, "Drop of what is not Frozen", s.Drop(all(), 1), api.ErrState)
	want(t, "the medium behind that", len(m.Bytes()), size)
	do(s, aPut(1, 1, "c", "x"))
	do(s, aDelete(2, 1, "b"))
	do(s, aPut(1, 2, "a\u00ad", "y"))
	now := froze{[]api.Record{rec("a\u00ad", "y"), rec("c", "x")}, []once.Last{last(1, 2), last(2, 1)}, 0}
	want(t, "Freeze", freeze(s, all(), 1), now)
	size = len(m.Bytes())
	for range 3 {
		want(t, "nothing in it changes", []did{
			do(s, aPut(1, 3, "d", "")), do(s, aPut(1, 2, "a\u00ad", "y")), do(s, aDelete(2, 2, "a")), do(s, aDelete(2, 0, "a")), do(s, aGet("a")), do(s, aPage("", "", 1)),
		}, []did{
			{api.Reply{Client: 1, Seq: 3, Err: 11}, false}, {api.Reply{Client: 1, Seq: 2, Err: 11}, false}, {api.Reply{Client: 2, Seq: 2, Err: 11}, false}, {api.Reply{Client: 2, Err: 11}, false}, {api.Reply{Err: 11}, false}, {api.Reply{Err: 11}, false},
		})
		want(t, "Freeze again", freeze(s, all(), 1), now)
		want(t, "List", s.List(), []Held{{all(), 1, true, 2}})
		want(t, "the medium", len(m.Bytes()), size)
		s = open(t, m, 3)
	}
	want(t, "Drop", []any{s.Drop(x, 1), s.Drop(all(), 2), s.Drop(all(), 1), s.Drop(all(), 1)}, []any{api.ErrNone, api.ErrNone, api.OK, api.ErrNone})
	want(t, "behind it", []any{s.List(), freeze(s, all(), 1), do(s, aGet("a"))}, []any{[]Held(nil), froze{e: api.ErrNone}, did{api.Reply{Err: 11}, false}})
	want(t, "a late Hold", []any{s.Hold(all(), 1, recs("a"), nil), open(t, m, 3).Hold(all(), 1, recs("a"), nil), s.Hold(all(), 2, recs("a"), nil)}, []any{api.ErrEpoch, api.ErrEpoch, api.OK})
}

func TestP15_1FreezeOfNothingInIt(t *testing.T) {
	s, _ := holding(t, 1)
	if l, last, e := s.Freeze(all(), 1); len(l) != 0 || len(last) != 0 || e != api.OK {
		t.Errorf("%v, %v, %v", l, last, e)
	}
}

func TestP15_2Arguments(t *testing.T) {
	long := strings.Repeat("b", 65)
	ask := func(do int, change func(a *api.Ask)) api.Ask {
		a := api.Ask{Do: do, Client: 1, Seq: 3, Text: "b", Val: "v"}
		if do == 4 {
			a.From, a.Limit = key("b"), 4
		}
		change(&a)
		return a
	}
	none := func(a *api.Ask) {}
	wrong := api.Errno(-1) // for: no error
	tests := []struct {
		what   string
		change func(a *api.Ask)
		want   [4]api.Errno // of put, delete, get, page
	}{
		{"all is well", none, [4]api.Errno{wrong, wrong, wrong, wrong}},
		{"Do 0", func(a *api.Ask) { a.Do = 0 }, [4]api.Errno{1, 1, 1, 1}},
		{"Do 5", func(a *api.Ask) { a.Do = 5 }, [4]api.Errno{1, 1, 1, 1}},
		{"Do below 0", func(a *api.Ask) { a.Do = -a.Do }, [4]api.Errno{1, 1, 1, 1}},
		{"Client -1", func(a *api.Ask) { a.Client = -1 }, [4]api.Errno{1, 1, 1, 1}},
		{"Client MaxClients", func(a *api.Ask) { a.Client = api.MaxClients }, [4]api.Errno{1, 1, 1, 1}},
		{"Client 3", func(a *api.Ask) { a.Client = 3 }, [4]api.Errno{wrong, wrong, wrong, wrong}},
		{"Seq -1", func(a *api.Ask) { a.Seq = -1 }, [4]api.Errno{1, 1, 1, 1}},
		{"Seq 0", func(a *api.Ask) { a.Seq = 0 }, [4]api.Errno{wrong, wrong, wrong, wrong}},
		{"the greatest Seq", func(a *api.Ask) { a.Seq = 1<<28 - 1 }, [4]api.Errno{wrong, wrong, wrong, wrong}},
		{"Limit 0", func(a *api.Ask) { a.Limit = 0 }, [4]api.Errno{wrong, wrong, wrong, 1}},
		{"Limit below 0", func(a *api.Ask) { a.Limit = -1 }, [4]api.Errno{wrong, wrong, wrong, 1}},
		{"Limit MaxPage", func(a *api.Ask) { a.Limit = api.MaxPage }, [4]api.Errno{wrong, wrong, wrong, wrong}},
		{"Limit above MaxPage", func(a *api.Ask) { a.Limit = api.MaxPage + 1 }, [4]api.Errno{wrong, wrong, wrong, 1}},
		{"the greatest Limit", func(a *api.Ask) { a.Limit = math.MaxInt }, [4]api.Errno{wrong, wrong, wrong, 1}},
		{"no text", func(a *api.Ask) { a.Text = "\xff" }, [4]api.Errno{2, 2, 2, wrong}},
		{"a text that is too long", func(a *api.Ask) { a.Text = long }, [4]api.Errno{3, 3, 3, wrong}},
		{"a text that is too long, and none", func(a *api.Ask) { a.Text = long + "\xff" }, [4]api.Errno{3, 3, 3, wrong}},
		{"a text as long as may be, with a key that is not", func(a *api.Ask) { a.Text = "b\u0301\u0301" + strings.Repeat("w", 26) }, [4]api.Errno{3, 3, 3, wrong}},
		{"a value that is too long", func(a *api.Ask) { a.Val = long }, [4]api.Errno{3, wrong, wrong, wrong}},
		{"a value as long as may be", func(a *api.Ask) { a.Val = long[1:] }, [4]api.Errno{wrong, wrong, wrong, wrong}},
		{"no text, and a value that is too long", func(a *api.Ask) { a.Text, a.Val = "\xff", long }, [4]api.Errno{2, 2, 2, wrong}},
		{"no text, and an elder Seq", func(a *api.Ask) { a.Text, a.Seq = "\xff", 0 }, [4]api.Errno{2, 2, 2, wrong}},
		{"a client that is none, and no text", func(a *api.Ask) { a.Text, a.Client = "\xff", 4 }, [4]api.Errno{1, 1, 1, 1}},
		{"no text, held nowhere", func(a *api.Ask) { a.Text, a.From = "d\xff", key("d") }, [4]api.Errno{2, 2, 2, 11}},
		{"a Limit that is none, held nowhere", func(a *api.Ask) { a.Limit, a.From = 17, key("d") }, [4]api.Errno{wrong, wrong, wrong, 1}},
		{"a value that is too long, held nowhere", func(a *api.Ask) { a.Text, a.Val, a.From = "d", long, key("d") }, [4]api.Errno{3, 11, 11, 11}},
		{"held nowhere", func(a *api.Ask) { a.Text, a.From = "d", key("d") }, [4]api.Errno{11, 11, 11, 11}},
		{"held nowhere, elder", func(a *api.Ask) { a.Text, a.From, a.Seq = "d", key("d"), 0 }, [4]api.Errno{11, 11, 11, 11}},
		{"Frozen", func(a *api.Ask) { a.Text, a.From = "c", key("c") }, [4]api.Errno{11, 11, 11, 11}},
		{"what is not asked", func(a *api.Ask) {
			if a.Do > 1 {
				a.Val = strings.Repeat("x", 70000)
			}
			if a.Do != 4 {
				a.From, a.To, a.Limit = strings.Repeat("x", 70000), strings.Repeat("x", 70000), math.MinInt
			} else {
				a.Text = strings.Repeat("\xff", 70000)
			}
		}, [4]api.Errno{wrong, wrong, wrong, wrong}},
	}
	for _, x := range tests {
		for i, e := range x.want {
			m := medium.New()
			s := open(t, m, 4)
			s.Hold(keys("b", "c"), 1, nil, nil)
			s.Hold(keys("c", "d"), 1, nil, nil)
			s.Freeze(keys("c", "d"), 1)
			size := len(m.Bytes())
			a := ask(i+1, x.change)
			what := fmt.Sprintf("%s, %d", x.what, i+1)
			got := do(s, a)
			if e != wrong {
				want(t, what, got, did{api.Reply{Client: a.Client, Seq: a.Seq, Err: e}, e != api.ErrEpoch})
				want(t, what+", the medium", len(m.Bytes()), size)
				continue
			}
			want(t, what, []any{got.r.Client, got.r.Seq, got.r.Err, got.ok}, []any{a.Client, a.Seq, api.OK, true})
			want(t, what+", the medium", len(m.Bytes()) > size, i < 2)
			checkOpen(t, what, m, 4, whole(s))
		}
	}
}

func TestP15_2PutGetDelete(t *testing.T) {
	s, m := holding(t, 9)
	seq := 0
	step := func(a api.Ask, found bool, val string) {
		t.Helper()
		seq++
		a.Client, a.Seq = 2, seq
		want(t, fmt.Sprintf("%+v", a), do(s, a), did{api.Reply{Client: 2, Seq: seq, Found: found, Val: val}, true})
		checkOpen(t, "behind it", m, 9, whole(s))
	}
	step(aGet("a"), false, "")
	step(aPut(0, 0, "a", "1"), false, "")
	step(aGet("a"), true, "1")
	step(aGet("a\u00ad"), true, "1")
	step(aGet("b"), false, "")
	step(aPut(0, 0, "a", "2"), true, "")
	step(aGet("a"), true, "2")
	step(aPut(0, 0, "\u00ada", ""), true, "") // another text of one key
	step(aGet("a"), true, "")
	want(t, "the last text", do(s, aPage("", "", 9)).r.L, []api.Record{rec("\u00ada", "")})
	step(aDelete(0, 0, "b"), false, "")
	step(aDelete(0, 0, "a"), true, "")
	step(aDelete(0, 0, "a"), false, "")
	step(aGet("a"), false, "")
	step(aPut(0, 0, "", "empty"), false, "")
	step(aGet(""), true, "empty")
	step(aGet("\u00ad"), true, "empty")
	step(aPut(0, 0, "é", "é"), false, "")
	step(aPut(0, 0, "e", "e"), false, "")
	step(aDelete(0, 0, "e\u0301"), true, "")
	step(aGet("e"), true, "e")
	want(t, "at last", s.List(), []Held{{all(), 1, false, 2}})
}

func TestP15_2Once(t *testing.T) {
	s, m := holding(t, 9, recs("a")...)
	first := do(s, aPut(1, 5, "b", "1"))
	want(t, "a put", first, did{api.Reply{Client: 1, Seq: 5}, true})
	size := len(m.Bytes())
	for range 2 {
		want(t, "told again", []did{do(s, aPut(1, 5, "b", "1")), do(s, aPut(1, 5, "b", "2")), do(s, aDelete(1, 5, "a")), do(s, aPut(1, 5, "new", ""))}, slices.Repeat([]did{first}, 4))
		want(t, "below", []did{do(s, aPut(1, 4, "b", "2")), do(s, aDelete(1, 0, "a"))}, make([]did, 2))
		want(t, "what is there", []did{do(s, aGet("a")), do(s, aGet("b"))}, []did{{api.Reply{Found: true, Val: "va"}, true}, {api.Reply{Found: true, Val: "1"}, true}})
		want(t, "the medium", len(m.Bytes()), size)
		s = open(t, m, 9)
	}
	want(t, "gets and pages have no turn", []did{do(s, api.Ask{Do: 3, Client: 1, Seq: 2, Text: "b"}), do(s, api.Ask{Do: 3, Client: 1, Seq: 9, Text: "b"}), do(s, api.Ask{Do: 4, Client: 1, Seq: 9, From: "\xff", Limit: 1})}, []did{
		{api.Reply{Client: 1, Seq: 2, Found: true, Val: "1"}, true}, {api.Reply{Client: 1, Seq: 9, Found: true, Val: "1"}, true}, {api.Reply{Client: 1, Seq: 9}, true},
	})
	want(t, "and are not noted", do(s, aDelete(1, 6, "b")), did{api.Reply{Client: 1, Seq: 6, Found: true}, true})
	want(t, "a delete told again", do(s, aDelete(1, 6, "b")), did{api.Reply{Client: 1, Seq: 6, Found: true}, true})
	want(t, "another client", do(s, aDelete(0, 0, "b")), did{api.Reply{}, true})
	want(t, "a delete of nothing is noted", do(s, aPut(0, 0, "b", "3")), did{api.Reply{}, true})
	want(t, "and b is not there", do(s, aGet("b")), did{api.Reply{}, true})
	want(t, "Freeze", freeze(s, all(), 1), froze{recs("a"), []once.Last{{Seq: 0}, last(1, 6)}, 0})
}

func TestP15_2OnceIsOfEachHeld(t *testing.T) {
	s := open(t, medium.New(), 9)
	r := api.Reply{Client: 1, Seq: 7, Err: api.ErrFull, Val: "any", L: recs("x"), Next: "n", More: true}
	s.Hold(keys("", "b"), 1, nil, []once.Last{{Seq: 7, Reply: r}})
	s.Hold(keys("b", ""), 1, nil, nil)
	want(t, "answers that were held", []did{do(s, aPut(1, 7, "a", "")), do(s, aPut(1, 6, "a", "")), do(s, aPut(1, 7, "b", "")), do(s, aPut(1, 6, "b", "")), do(s, aPut(1, 8, "b", "x")), do(s, aPut(1, 8, "a", ""))}, []did{
		{r, true}, {}, {api.Reply{Client: 1, Seq: 7}, true}, {}, {api.Reply{Client: 1, Seq: 8, Found: true}, true}, {api.Reply{Client: 1, Seq: 8}, true},
	})
}

func TestP15_2Full(t *testing.T) {
	for _, full := range []int{1, 2, 3, api.MaxFull} {
		s, m := holding(t, full)
		texts := strings.Split("abcdefghijklmnopqrstuvwxyz", "")
		for i, text := range texts[:full] {
			want(t, "a put", do(s, aPut(0, i, text, "1")), did{api.Reply{Seq: i}, true})
		}
		refused := did{api.Reply{Seq: 50, Err: api.ErrFull}, true}
		want(t, "one past full", do(s, aPut(0, 50, "zz", "")), refused)
		want(t, "it is not there", []any{do(s, aGet("zz")), s.List()[0].Many}, []any{did{api.Reply{}, true}, full})
		want(t, "one that is there", do(s, aPut(1, 1, texts[0]+"\u00ad", "2")), did{api.Reply{Client: 1, Seq: 1, Found: true}, true})
		want(t, "a delete makes room", do(s, aDelete(1, 2, texts[0])), did{api.Reply{Client: 1, Seq: 2, Found: true}, true})
		want(t, "told again it is answered as it was", do(s, aPut(0, 50, "zz", "")), refused)
		want(t, "below", do(s, aPut(0, 49, "zz", "")), did{})
		was := whole(s)
		for other := 1; other <= api.MaxFull; other++ { // what was done stays done, and what was refused refused
			checkOpen(t, "with another full", m, other, was)
		}
		s = open(t, m, full)
		want(t, "opened anew", do(s, aPut(0, 50, "zz", "")), refused)
		want(t, "asked by another number", do(s, aPut(0, 51, "zz", "")), did{api.Reply{Seq: 51}, true})
	}
	s := open(t, medium.New(), 2) // Hold takes more than full
	s.Hold(keys("", "c"), 1, recs("a", "aa", "ab"), nil)
	s.Hold(keys("c", ""), 1, recs("c"), nil)
	want(t, "where more is held", []did{do(s, aPut(0, 1, "b", "")), do(s, aPut(0, 2, "a", "")), do(s, aDelete(0, 3, "a")), do(s, aPut(0, 4, "a", "")), do(s, aPut(0, 1, "d", ""))}, []did{
		{api.Reply{Seq: 1, Err: api.ErrFull}, true}, {api.Reply{Seq: 2, Found: true}, true}, {api.Reply{Seq: 3, Found: true}, true}, {api.Reply{Seq: 4, Err: api.ErrFull}, true}, {api.Reply{Seq: 1}, true},
	})
}

func TestP15_2Page(t *testing.T) {
	s := open(t, medium.New(), 9)
	s.Hold(keys("a", "c"), 1, recs("b", "aa", "a", "bb", "ab"), nil)
	s.Hold(keys("c", "d"), 1, nil, nil)
	s.Hold(keys("d", ""), 1, recs("e", "d"), nil)
	k := key
	tests := []struct {
		from, to string
		limit    int
		texts    string
		next     string
		more     bool
	}{
		{k("a"), "", 16, "a aa ab b bb", k("c"), true},
		{k("a"), "", 5, "a aa ab b bb", k("c"), true},
		{k("a"), "", 4, "a aa ab b", k("bb"), true},
		{k("a"), "", 1, "a", k("aa"), true},
		{k("a") + "\x00", "", 2, "aa ab", k("b"), true},
		{k("aa"), "", 2, "aa ab", k("b"), true},
		{k("bbb"), "", 2, "", k("c"), true},
		{k("a"), k("c"), 5, "a aa ab b bb", k("c"), false}, // To is its end
		{k("a"), k("c"), 4, "a aa ab b", k("bb"), true},
		{k("a"), k("d"), 5, "a aa ab b bb", k("c"), true}, // To is behind its end
		{k("a"), k("b"), 5, "a aa ab", k("b"), false},     // To is a record's key, that isn't told
		{k("a"), k("b"), 3, "a aa ab", k("b"), false},
		{k("a"), k("b"), 2, "a aa", k("ab"), true},
		{k("a"), k("b") + "\x00", 3, "a aa ab", k("b"), true},
		{k("a"), k("b") + "\x00", 4, "a aa ab b", k("b") + "\x00", false},
		{k("b"), k("b"), 4, "", k("b"), false}, // nothing is from From on and below To
		{k("b"), k("a"), 4, "", k("a"), false},
		{k("b"), "\x00", 4, "", "\x00", false},
		{k("a"), "\xff", 5, "a aa ab b bb", k("c"), true},
		{k("c"), "", 1, "", k("d"), true},
		{k("c"), k("d"), 1, "", k("d"), false},
		{k("c"), k("cb"), 1, "", k("cb"), false},
		{k("d"), "", 2, "d e", "", false}, // the last one has no end
		{k("d"), "", 1, "d", k("e"), true},
		{k("d"), k("e"), 1, "d", k("e"), false},
		{k("d"), "\xff\xff", 2, "d e", "\xff\xff", false},
		{k("d"), "\xff\xff", 1, "d", k("e"), true},
		{"\xff", "", 1, "", "", false},
		{"\xff", "\xff\xff", 1, "", "\xff\xff", false},
		{strings.Repeat("\xff", 9999), "", 1, "", "", false},
	}
	for _, x := range tests {
		a := api.Ask{Do: 4, Client: 3, Seq: 8, From: x.from, To: x.to, Limit: x.limit, Text: "no", Val: "matter"}
		r := api.Reply{Client: 3, Seq: 8, L: recs(strings.Fields(x.texts)...), Next: x.next, More: x.more}
		want(t, fmt.Sprintf("%+v", x), do(s, a), did{r, true})
	}
	for _, from := range []string{"", k("a")[:3], "\x00"} {
		want(t, "a page held nowhere", do(s, aPage(from, k("b"), 3)), did{api.Reply{Err: api.ErrEpoch}, false})
	}
	s.Freeze(keys("c", "d"), 1)
	want(t, "a page of what is Frozen", do(s, aPage(k("c"), "", 3)), did{api.Reply{Err: api.ErrEpoch}, false})
}

func TestT3PagesFollowOneAnother(t *testing.T) {
	cuts := []string{"", key("ab"), key("b"), key("cc"), ""}
	texts := strings.Fields("a aa ab abc b ba c cb d dd de e ea eb ec")
	s := open(t, medium.New(), 16)
	for i := range len(cuts) - 1 {
		var l []api.Record
		for _, text := range texts {
			if x := (api.Span{From: cuts[i], To: cuts[i+1]}); has(x, key(text)) {
				l = append(l, rec(text, ""))
			}
		}
		want(t, "Hold", s.Hold(api.Span{From: cuts[i], To: cuts[i+1]}, 1, l, nil), api.OK)
	}
	for limit := 1; limit <= api.MaxPage; limit++ {
		for _, to := range []string{"", key("b"), key("bb"), key("e"), "\xff"} {
			var due, got []string
			for _, text := range texts {
				if to == "" || key(text) < to {
					due = append(due, text)
				}
			}
			from := ""
			for range 100 {
				x := do(s, aPage(from, to, limit))
				for _, r := range x.r.L {
					got = append(got, r.Text)
				}
				if !x.ok || !x.r.More {
					want(t, "the end", x.r.Next, to)
					break
				}
				if x.r.Next <= from {
					t.Fatalf("from %q, next %q", from, x.r.Next)
				}
				from = x.r.Next
			}
			want(t, fmt.Sprintf("limit %d, to %q", limit, to), got, due)
		}
	}
}
