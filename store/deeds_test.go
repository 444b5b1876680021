package store

import (
	"fmt"
	"math"
	"slices"
	"strings"
	"testing"

	"gazetteer/api"
	"gazetteer/journal"
	"gazetteer/medium"
	"gazetteer/once"
	"gazetteer/parcel"
	"gazetteer/seal"
)

// run is a store, what it should be, and how many bytes the medium had when it was what.
type run struct {
	s    *Store
	p    *plain
	m    *medium.Medium
	size []int
	was  []string
}

func begin(t *testing.T, full int) *run {
	m := medium.New()
	r := &run{s: open(t, m, full), p: &plain{full: full}, m: m}
	r.mark(t, "at first")
	return r
}

// mark notes what there is now, and tells where that is not as it should be, or not synced.
func (r *run) mark(t *testing.T, what string) {
	t.Helper()
	if r.m.Loose() != 0 {
		t.Fatalf("%s: %d bytes are loose", what, r.m.Loose())
	}
	want(t, what+", List", r.s.List(), r.p.list())
	now, size := r.p.whole(), len(r.m.Bytes())
	if got := whole(r.s); got != now {
		t.Fatalf("%s:\n%s, want\n%s", what, got, now)
	}
	if n := len(r.was); n > 0 {
		if (r.was[n-1] == now) != (r.size[n-1] == size) {
			t.Fatalf("%s: the store changed, and the medium did not, or the other way", what)
		}
		if r.size[n-1] == size {
			return
		}
	}
	r.size, r.was = append(r.size, size), append(r.was, now)
}

// at answers what the store was when the medium had at most n bytes, and how many.
func (r *run) at(n int) (string, int) {
	i := len(r.size) - 1
	for r.size[i] > n {
		i--
	}
	return r.was[i], r.size[i]
}

var (
	someTexts = []string{"", "a", "b", "c", "d", "e", "é", "e\u0301", "b\u00ad", "ab", "cd", "\u00adc", "zz"}
	someCuts  = []string{"", "a", "b", "c", "d", "e"}
)

func pick[T any](roll func(int) int, l []T) T { return l[roll(len(l))] }

func someSpan(roll func(int) int) api.Span {
	return keys(pick(roll, someCuts), pick(roll, someCuts))
}

func someRecords(roll func(int) int, x api.Span) []api.Record {
	var l []api.Record
	for range roll(5) {
		text := pick(roll, someTexts)
		if has(x, key(text)) || roll(30) == 0 {
			l = append(l, rec(text, fmt.Sprint(roll(9))))
		}
	}
	if roll(60) == 0 {
		l = append(l, rec("\xff", ""))
	}
	return l
}

func someLast(roll func(int) int) []once.Last {
	var l []once.Last
	for range roll(3) {
		x := last(roll(5), roll(20))
		x.Reply.L = recs(slices.Repeat([]string{"x"}, roll(3))...)
		l = append(l, x)
	}
	if roll(60) == 0 {
		l = append(l, last(roll(3)-1, roll(3)-1))
	}
	return l
}

func someAsk(roll func(int) int, turn int) api.Ask {
	a := api.Ask{Do: 1 + roll(4), Client: roll(4), Seq: max(0, turn/4+roll(5)-2), Text: pick(roll, someTexts), Val: fmt.Sprint(roll(99)), Limit: 1 + roll(4)}
	x := someSpan(roll)
	a.From, a.To = x.From, x.To
	switch roll(40) {
	case 0:
		a.Do = pick(roll, []int{-1, 0, 5, 6})
	case 1:
		a.Client = pick(roll, []int{-1, 4})
	case 2:
		a.Seq = -1
	case 3:
		a.Limit = pick(roll, []int{-1, 0, 17, 99})
	case 4:
		a.Text = pick(roll, []string{"\xff", strings.Repeat("a", 65), strings.Repeat("z", 64)})
	case 5:
		a.Val = strings.Repeat("x", 64+roll(2))
	}
	return a
}

// step does one thing to both.
func (r *run) step(t *testing.T, roll func(int) int, turn int) {
	t.Helper()
	x, epoch := someSpan(roll), roll(4)+turn/20
	if len(r.p.parts) > 0 && roll(3) > 0 { // mostly what is held
		y := pick(roll, r.p.parts)
		x, epoch = y.span, y.epoch+roll(8)/7
	}
	what := ""
	switch roll(9) {
	case 0, 1, 2:
		l, last := someRecords(roll, x), someLast(roll)
		what = fmt.Sprintf("Hold(%q, %d, %+v, %+v)", x, epoch, l, last)
		want(t, what, r.s.Hold(x, epoch, l, last), r.p.hold(x, epoch, l, last))
	case 3:
		what = fmt.Sprintf("Freeze(%q, %d)", x, epoch)
		want(t, what, freeze(r.s, x, epoch), r.p.freeze(x, epoch))
	case 4:
		what = fmt.Sprintf("Drop(%q, %d)", x, epoch)
		want(t, what, r.s.Drop(x, epoch), r.p.drop(x, epoch))
	default:
		a := someAsk(roll, turn)
		what = fmt.Sprintf("Do(%+v)", a)
		want(t, what, do(r.s, a), r.p.do(a))
	}
	r.mark(t, what)
}

func TestP15_3AnyRunsAndCrashesAtWhateverTime(t *testing.T) {
	roll := dice(15)
	for n := range 120 {
		r := begin(t, 1+n%6)
		for turn := range 80 {
			r.step(t, roll, turn)
			if roll(12) == 0 {
				r.m.Crash(roll(100) - 50)
				r.s = open(t, r.m, r.p.full)
				r.mark(t, "opened anew")
			}
			if t.Failed() {
				return
			}
		}
		r.eachPlaceToTear(t, roll, max(1, len(r.m.Bytes())/60))
	}
}

// eachPlaceToTear opens what is left of the medium where it ends early, at places so far apart and about each deed's end.
func (r *run) eachPlaceToTear(t *testing.T, roll func(int) int, apart int) {
	t.Helper()
	b := r.m.Bytes()
	var places []int
	for at := 0; at <= len(b); at += apart {
		places = append(places, at)
	}
	for _, size := range r.size {
		places = append(places, max(size-1, 0), size, min(size+1, len(b)))
	}
	for _, at := range places {
		now, size := r.at(at)
		synced := roll(at + 1)
		m := medium.New()
		m.Swap(b[:synced])
		m.Append(b[synced:])
		m.Crash(at - synced)
		s := open(t, m, r.p.full)
		if got := whole(s); got != now || len(m.Bytes()) != size || m.Loose() != 0 {
			t.Fatalf("cut at %d of %d:\n%s, want\n%s\n(%d bytes, want %d)", at, len(b), got, now, len(m.Bytes()), size)
		}
		s.Hold(api.Span{From: "\xff\xff"}, 1<<27, nil, nil) // what comes behind it is there, too
		checkOpen(t, "behind a torn deed", m, r.p.full, whole(s))
	}
}

func TestP15_3EachPlaceToTear(t *testing.T) {
	roll := dice(3)
	r := begin(t, 3)
	for turn := range 40 {
		r.step(t, roll, turn)
	}
	r.eachPlaceToTear(t, roll, 1)
}

func TestP15_3SyncedAheadOfItsAnswer(t *testing.T) {
	s, m := holding(t, 2, recs("a")...)
	steps := []struct {
		what string
		do   func()
		deed bool
	}{
		{"put", func() { s.Do(aPut(0, 1, "b", "")) }, true},
		{"put again", func() { s.Do(aPut(0, 1, "b", "")) }, false},
		{"put past full", func() { s.Do(aPut(0, 2, "c", "")) }, true},
		{"put that is past", func() { s.Do(aPut(0, 1, "c", "")) }, false},
		{"delete", func() { s.Do(aDelete(0, 3, "b")) }, true},
		{"delete of nothing", func() { s.Do(aDelete(0, 4, "b")) }, true},
		{"get", func() { s.Do(aGet("a")) }, false},
		{"page", func() { s.Do(aPage("", "", 1)) }, false},
		{"refused", func() { s.Do(aPut(0, 5, "\xff", "")) }, false},
		{"Hold that is refused", func() { s.Hold(keys("b", ""), 2, nil, nil) }, false},
		{"Hold again", func() { s.Hold(all(), 1, nil, nil) }, false},
		{"Drop that is refused", func() { s.Drop(all(), 1) }, false},
		{"Freeze of nothing", func() { s.Freeze(all(), 2) }, false},
		{"List", func() { s.List() }, false},
		{"Freeze", func() { s.Freeze(all(), 1) }, true},
		{"Freeze again", func() { s.Freeze(all(), 1) }, false},
		{"put in what is Frozen", func() { s.Do(aPut(0, 5, "b", "")) }, false},
		{"Drop", func() { s.Drop(all(), 1) }, true},
		{"Drop again", func() { s.Drop(all(), 1) }, false},
		{"late Hold", func() { s.Hold(all(), 1, nil, nil) }, false},
		{"Hold", func() { s.Hold(all(), 2, nil, nil) }, true},
	}
	for _, x := range steps {
		was := m.Bytes()
		many, _ := journal.Recover(m.Copy())
		x.do()
		now, cut := journal.Recover(m.Copy())
		want(t, x.what+": what is loose, or no deed", []int{m.Loose(), cut}, []int{0, 0})
		want(t, x.what+": more deeds", len(now) > len(many), x.deed)
		if !strings.HasPrefix(string(m.Bytes()), string(was)) {
			t.Errorf("%s: what was on the medium is changed", x.what)
		}
		checkOpen(t, x.what, m, 2, whole(s))
	}
}

// letters answers n texts of five letters, no two of one key, not in order.
func letters(n int) []string {
	l := make([]string, n)
	for i := range l {
		for x, j := i*7, 0; j < 5; x, j = x/5, j+1 {
			l[i] += string([]byte{byte('a' + x%5)})
		}
	}
	return l
}

func TestP15_3GreatHold(t *testing.T) {
	small := []once.Last{last(0, 3), last(1, 9)}
	great := slices.Clone(small)
	for i := range great {
		great[i].Reply.Val = strings.Repeat("v", api.MaxFrame-26)
	}
	many := []once.Last{}
	for i := range 3000 {
		many = append(many, last(i, i))
	}
	var long []api.Record
	for _, text := range letters(3000) {
		long = append(long, rec(text+strings.Repeat("\u00ad", 29), strings.Repeat("x", 64)))
	}
	far := api.Span{From: strings.Repeat("\xff", 100000), To: strings.Repeat("\xff", 200000)}
	tests := []struct {
		what string
		x    api.Span
		l    []api.Record
		last []once.Last
	}{
		{"nothing", keys("b", ""), nil, nil},
		{"few", all(), recs("a", "b"), small},
		{"many records", all(), recs(letters(3000)...), nil},
		{"many long records", all(), long, small},
		{"great answers", keys("b", "c"), recs("b"), great},
		{"many answers", all(), nil, many},
		{"all of it", all(), long, append(many[2:], great...)},
		{"a span of long ends", far, nil, small},
	}
	roll := dice(8)
	for _, x := range tests {
		r := begin(t, 2)
		ahead := api.Span{From: far.To}
		hold := func(x api.Span, epoch int, l []api.Record, last []once.Last) {
			want(t, "Hold", []api.Errno{r.s.Hold(x, epoch, l, last), r.p.hold(x, epoch, l, last)}, errs(0, 0))
			r.mark(t, "Hold")
		}
		hold(x.x, 2, nil, small)
		want(t, "Freeze", freeze(r.s, x.x, 2), r.p.freeze(x.x, 2))
		r.mark(t, "Freeze")
		want(t, "Drop", []api.Errno{r.s.Drop(x.x, 2), r.p.drop(x.x, 2)}, errs(0, 0))
		r.mark(t, "Drop")
		if x.x.To != "" {
			hold(ahead, 3, nil, nil)
		}
		hold(x.x, 4, x.l, x.last)
		if has(x.x, key("b")) {
			want(t, "a put", do(r.s, aPut(2, 5000, "b", "x")), r.p.do(aPut(2, 5000, "b", "x")))
			r.mark(t, "Do")
		}
		want(t, x.what, freeze(r.s, x.x, 4), r.p.freeze(x.x, 4))
		r.mark(t, "Freeze")
		deeds, _ := journal.Recover(r.m.Copy())
		t.Logf("%s: %d bytes in %d deeds", x.what, len(r.m.Bytes()), len(deeds))
		r.eachPlaceToTear(t, roll, len(r.m.Bytes())/20)
		r.eachFrameTorn(t)
	}
}

// eachFrameTorn opens what is left where the medium ends with a whole frame.
func (r *run) eachFrameTorn(t *testing.T) {
	b := r.m.Bytes()
	for at := 0; ; {
		now, size := r.at(at)
		m := medium.New()
		m.Append(b[:at])
		s := open(t, m, r.p.full)
		if got := whole(s); got != now || len(m.Bytes()) != size {
			t.Fatalf("cut behind the frame at %d of %d: %d bytes, want %d", at, len(b), len(m.Bytes()), size)
		}
		_, _, n, e := seal.Open(b[at:])
		if e != api.OK {
			return
		}
		at += n
	}
}

// aRun is a store's deeds, and what it was behind each of them.
func aRun(t *testing.T) (l []journal.Deed, was []string) {
	s, m := holding(t, 2, recs("a")...)
	note := func() { was = append(was, whole(s)) }
	was = []string{whole(&Store{})}
	note()
	s.Do(aPut(0, 1, "b", "x"))
	note()
	s.Do(aPut(1, 1, "c", ""))
	note()
	s.Do(aDelete(0, 2, "a"))
	note()
	s.Freeze(all(), 1)
	note()
	s.Drop(all(), 1)
	note()
	s.Hold(keys("c", ""), 3, recs("d"), []once.Last{last(3, 3)})
	note()
	s.Do(aPut(3, 4, "c", "y"))
	note()
	l, _ = journal.Recover(m)
	if len(l) != len(was)-1 {
		t.Fatalf("%d deeds, and %d states", len(l), len(was))
	}
	return l, was
}

// laid answers a medium of these deeds.
func laid(t *testing.T, l []journal.Deed) *medium.Medium {
	m := medium.New()
	for _, d := range l {
		if e := journal.Add(m, d); e != api.OK {
			t.Fatalf("%+v: %v", d, e)
		}
	}
	return m
}

// checkDeeds tells where a store of these deeds is not that one, or m is not cut to as many of them as many says.
func checkDeeds(t *testing.T, what string, l []journal.Deed, many int, now string) {
	t.Helper()
	m := laid(t, l)
	s := open(t, m, 2)
	if got := whole(s); got != now {
		t.Fatalf("%s:\n%s, want\n%s", what, got, now)
	}
	if string(m.Bytes()) != string(laid(t, l[:many]).Bytes()) || m.Loose() != 0 {
		t.Fatalf("%s: the medium is not cut to %d deeds", what, many)
	}
	s.Hold(api.Span{From: "\xff"}, 9, nil, nil)
	s.Do(aPut(2, 9, "c", "z"))
	checkOpen(t, what+", what comes behind", m, 2, whole(s))
}

func TestP15_1DeedsThatCannotCome(t *testing.T) {
	l, was := aRun(t)
	bad := []journal.Deed{{}, {Do: 99}, {Do: 1 << 27, Ask: aPut(0, 9, "a", "")}, {Epoch: 7, Span: all(), L: recs("a")}}
	for do := range 12 {
		bad = append(bad,
			journal.Deed{Do: do, Err: api.ErrArg},
			journal.Deed{Do: do, Ask: aGet("a")},
			journal.Deed{Do: do, Ask: aPage("", "", 1)},
			journal.Deed{Do: do, Ask: api.Ask{Do: 9}, Err: api.ErrArg},
			journal.Deed{Do: do, Ask: aPut(9, 99, "b", "")},
			journal.Deed{Do: do, Ask: aPut(2, 99, "\xff", ""), Err: api.ErrText},
			journal.Deed{Do: do, Ask: aPut(2, 99, "b", strings.Repeat("x", 65))},
			journal.Deed{Do: do, Ask: aPut(2, 99, "zz", ""), Err: api.ErrEpoch},
			journal.Deed{Do: do, Ask: aDelete(2, 99, "d"), Err: api.ErrFull},
			journal.Deed{Do: do, Ask: aPut(2, 99, "d", ""), Err: api.ErrBusy},
			journal.Deed{Do: do, L: recs("a")},
			journal.Deed{Do: do, L: []api.Record{{}}},
			journal.Deed{Do: do, L: make([]api.Record, 2)},
			journal.Deed{Do: do, L: []api.Record{{Val: strings.Repeat("\x00", 20)}}},
			journal.Deed{Do: do, L: []api.Record{{Val: "\x0f\xff\xff\xff\x0f\xff\xff\xff\x0f\xff\xff\xff"}}},
		)
	}
	for at := range len(l) + 1 {
		checkDeeds(t, "as they are", l[:at], at, was[at])
		for _, d := range bad {
			checkDeeds(t, fmt.Sprintf("%+v at %d", d, at), slices.Insert(slices.Clone(l), at, d), at, was[at])
		}
	}
}

// TestP15_1DeedsOutOfOrder lets a store do again any of its deeds in any order: those that are refused end it.
func TestP15_1DeedsOutOfOrder(t *testing.T) {
	l, _ := aRun(t)
	l = append(l, deedOf(aDelete(2, 1, "b"), api.OK), deedOf(aPut(0, 1, "b", "other"), api.OK))
	plainly := func(order []int) (int, string) {
		p := &plain{full: 2}
		steps := []func() bool{
			func() bool { return p.hold(all(), 1, recs("a"), nil) == api.OK },
			func() bool { return p.redo(aPut(0, 1, "b", "x"), api.OK) },
			func() bool { return p.redo(aPut(1, 1, "c", ""), api.ErrFull) },
			func() bool { return p.redo(aDelete(0, 2, "a"), api.OK) },
			func() bool { return p.freeze(all(), 1).e == api.OK },
			func() bool { return p.drop(all(), 1) == api.OK },
			func() bool { return p.hold(keys("c", ""), 3, recs("d"), []once.Last{last(3, 3)}) == api.OK },
			func() bool { return p.redo(aPut(3, 4, "c", "y"), api.OK) },
			func() bool { return p.redo(aDelete(2, 1, "b"), api.OK) },
			func() bool { return p.redo(aPut(0, 1, "b", "other"), api.OK) },
		}
		for i, n := range order {
			if !steps[n]() {
				return i, p.whole()
			}
		}
		return len(order), p.whole()
	}
	roll := dice(4)
	for range 2000 {
		var order []int
		for range roll(12) {
			order = append(order, pick(roll, []int{0, 1, 2, 3, 4, 5, 6, 7, 8, 9, len(order) % 8, len(order) % 8}))
		}
		many, now := plainly(order)
		deeds := []journal.Deed{}
		for _, n := range order {
			deeds = append(deeds, l[n])
		}
		checkDeeds(t, fmt.Sprint(order), deeds, many, now)
	}
}

// redo does what was noted, where what was answered goes ahead of whether there is room.
func (p *plain) redo(a api.Ask, e api.Errno) bool {
	x := p.find(key(a.Text))
	if x == nil || x.frozen {
		return false
	}
	before, ok := x.last[a.Client]
	if ok && before.Seq >= a.Seq {
		return before.Seq == a.Seq && before.Err == e
	}
	_, found := x.texts[key(a.Text)]
	if e == api.ErrFull && found {
		return false
	}
	full := p.full
	p.full = math.MaxInt
	if e == api.ErrFull {
		p.full = 0
	}
	d := p.do(a)
	p.full = full
	return d.ok && d.r.Err == e
}

func TestP15_1PiecesThatDoNotEnd(t *testing.T) {
	m := medium.New()
	s := open(t, m, 2)
	s.Hold(keys("", "b"), 1, nil, nil)
	s.Hold(keys("b", ""), 1, nil, []once.Last{{Reply: api.Reply{Val: strings.Repeat("x", 20000)}}})
	s.Do(aPut(1, 1, "c", "x"))
	l, _ := journal.Recover(m.Copy())
	if len(l) != 4 {
		t.Fatalf("%d deeds", len(l))
	}
	one := whole(open(t, laid(t, l[:1]), 2))
	checkDeeds(t, "a piece that nothing ends", l[:2], 1, one)
	checkDeeds(t, "a piece and a put", []journal.Deed{l[0], l[1], l[3]}, 1, one)
	checkDeeds(t, "a piece twice", []journal.Deed{l[0], l[1], l[1], l[2], l[3]}, 1, one)
	checkDeeds(t, "a piece and another Hold", []journal.Deed{l[0], l[1], l[0], l[2], l[3]}, 1, one)
	checkDeeds(t, "an end without its pieces", []journal.Deed{l[0], l[2], l[3]}, 1, one)
	checkDeeds(t, "what is whole", l, 4, whole(s))
}

func TestP15_1OtherBytes(t *testing.T) {
	l, was := aRun(t)
	bytes := laid(t, l).Bytes()
	other, _ := seal.Frame(8, []byte("another's"))
	for _, more := range [][]byte{nil, {0}, {1, 2, 3}, other, make([]byte, 99), slices.Repeat([]byte{0xff}, 99), bytes[1:]} {
		m := medium.New()
		m.Append(bytes)
		m.Append(more)
		s := open(t, m, 2)
		want(t, "with other bytes behind", []any{m.Bytes(), m.Loose()}, []any{bytes, 0})
		s.Do(aPut(3, 5, "e", ""))
		checkOpen(t, "behind them", m, 2, whole(s))
		if got := whole(open(t, laid(t, l), 2)); got != was[len(l)] {
			t.Errorf("%s", got)
		}
	}
	for at := range bytes {
		b := slices.Clone(bytes)
		b[at] ^= 0x20
		m := medium.New()
		m.Append(b)
		now := whole(open(t, m, 2))
		if !slices.Contains(was, now) || len(m.Bytes()) > at {
			t.Fatalf("a byte changed at %d: %d bytes are left,\n%s", at, len(m.Bytes()), now)
		}
	}
}

// TestP15_1ToldBytes changes what deeds tell, in frames that open all the same.
func TestP15_1ToldBytes(t *testing.T) {
	b, _ := told{keys("b", "d"), 5, recs("b", "c"), []once.Last{last(1, 2)}}.pack()
	good := whole(open(t, laid(t, journal.Pieces(held, piece, b)), 2))
	none := whole(&Store{})
	want(t, "nothing", len(open(t, laid(t, []journal.Deed{{Do: held}}), 2).l), 0)
	for at := range len(b) {
		for _, x := range [][]byte{b[:at], b[at+1:], slices.Concat(b[:at], b[at+1:]), slices.Concat(b[:at], []byte{b[at] ^ 1}, b[at+1:]), slices.Concat(b[:at], []byte{0x0f}, b[at+1:]), slices.Concat(b[:at], []byte{0xff}, b[at:])} {
			if len(x) == 0 {
				continue
			}
			m := laid(t, journal.Pieces(held, piece, x))
			s := open(t, m, 2)
			if len(s.l) == 0 && (whole(s) != none || len(m.Bytes()) != 0) || len(s.l) == 1 && slices.Equal(x, b) != (whole(s) == good) {
				t.Fatalf("%q: %s", x, whole(s))
			}
			checkOpen(t, "told bytes", m, 2, whole(s))
		}
	}
	two := journal.Pieces(held, piece, b)
	two[0].L = append(two[0].L, rec("", "x"))
	want(t, "more than one record", len(open(t, laid(t, two), 2).l), 0)
	reply := slices.Clone(b)
	reply[len(b)-26+12] = 2 // where it is told whether something was found
	want(t, "an answer that is none", len(open(t, laid(t, journal.Pieces(held, piece, reply)), 2).l), 0)
	want(t, "bytes that are left", len(open(t, laid(t, journal.Pieces(held, piece, append(slices.Clone(b), 0))), 2).l), 0)
}

func TestP15_3AnotherTable(t *testing.T) {
	_, m := holding(t, 2, recs("é", "e")...)
	other := table()
	other.Rows = slices.Delete(other.Rows, len(other.Rows)-1, len(other.Rows))
	other.Rows = append(other.Rows, api.Row{Of: []rune{0x301}}) // it weighs nothing: é and e have one key
	s, e := Open(other, m.Copy(), 2)
	want(t, "a Hold that may not be by another table", []any{s.List(), e}, []any{[]Held(nil), api.OK})
}

func TestR1NumbersBeyondAllBounds(t *testing.T) {
	s, m := holding(t, 2)
	size := len(m.Bytes())
	for _, n := range []int{1 << 28, 1 << 40, math.MaxInt} {
		want(t, "Hold", s.Hold(keys("b", ""), n, nil, nil) == api.OK, false)
		want(t, "Freeze and Drop", []any{freeze(s, all(), n), s.Drop(all(), n)}, []any{froze{e: api.ErrNone}, api.ErrNone})
		want(t, "a put", do(s, aPut(0, n, "a", "")), did{api.Reply{Seq: n, Err: api.ErrArg}, true})
		want(t, "a get", do(s, api.Ask{Do: 3, Seq: n, Text: "a"}), did{api.Reply{Seq: n}, true})
	}
	want(t, "the medium", len(m.Bytes()), size)
	checkOpen(t, "behind them", m, 2, whole(s))
}

func TestR4WhatIsHandedInStaysAndIsNotKept(t *testing.T) {
	m := medium.New()
	tab := table()
	s, _ := Open(tab, m, 4)
	l := append(recs("b", "a"), rec("spare", "room"))
	lasts := []once.Last{last(1, 1), last(2, 2), last(3, 3)}
	lasts[0].Reply.L = recs("x", "y", "spare")[:2]
	was, lastsWas := slices.Clone(l), slices.Clone(lasts)
	want(t, "Hold", s.Hold(all(), 1, l[:2], lasts[:2]), api.OK)
	s.Do(aPut(0, 1, "é", "v"))
	want(t, "what was handed in", []any{l, lasts, lasts[0].Reply.L[:3], tab}, []any{was, lastsWas, recs("x", "y", "spare"), table()})
	before := whole(s)
	clear(l)
	clear(lasts[0].Reply.L)
	clear(lasts)
	for i := range tab.Rows {
		clear(tab.Rows[i].Of)
		clear(tab.Rows[i].To)
	}
	for i := range tab.Lore {
		clear(tab.Lore[i].To)
	}
	clear(tab.Rows)
	clear(tab.Lore)
	want(t, "what was kept", whole(s), before)
	want(t, "by the table that was", []did{do(s, aGet("é")), do(s, aGet("e\u0301")), do(s, aGet("a\u00ad"))}, []did{{api.Reply{Found: true, Val: "v"}, true}, {api.Reply{Found: true, Val: "v"}, true}, {api.Reply{Found: true, Val: "va"}, true}})
	checkOpen(t, "opened anew", m, 4, before)
}

func TestR4WhatIsAnsweredIsNewMemory(t *testing.T) {
	m := medium.New()
	s := open(t, m, 4)
	x := last(1, 1)
	x.Reply.L = recs("x", "y")
	s.Hold(keys("", "c"), 1, recs("a", "b"), []once.Last{x})
	s.Hold(keys("c", ""), 1, recs("c"), nil)
	scribble := func(l []api.Record) {
		for i := range l[:cap(l)] {
			l[:cap(l)][i] = rec("scribbled", "over")
		}
	}
	before := whole(s)
	l := s.List()
	clear(l[:cap(l)])
	scribble(do(s, aPage("", "", 1)).r.L)
	scribble(do(s, aPut(1, 1, "a", "")).r.L)
	want(t, "behind answers that were changed", []any{whole(s), len(s.List())}, []any{before, 2})
	first := freeze(s, keys("", "c"), 1)
	frozen := whole(s)
	scribble(first.l)
	scribble(first.last[0].Reply.L)
	clear(first.last[:cap(first.last)])
	want(t, "behind a Freeze that was changed", whole(s), frozen)
	want(t, "Freeze again", freeze(s, keys("", "c"), 1), froze{recs("a", "b"), []once.Last{x}, 0})
	b := m.Bytes()
	clear(b)
	checkOpen(t, "the medium", m, 4, frozen)
}

func TestR7NilStore(t *testing.T) {
	var s *Store
	l, lasts, e := s.Freeze(all(), 1)
	want(t, "Freeze", []any{len(l), len(lasts), e}, []any{0, 0, api.ErrArg})
	want(t, "the others", []any{s.Hold(all(), 1, nil, nil), s.Drop(all(), 1), len(s.List())}, []any{api.ErrArg, api.ErrArg, 0})
	for _, a := range []api.Ask{{}, aPut(1, 1, "a", ""), aDelete(1, 1, "a"), aGet("a"), aPage("", "", 1)} {
		want(t, "Do", do(s, a), did{})
	}
	if s, e := Open(table(), nil, 1); s != nil || e != api.ErrArg {
		t.Errorf("Open of no medium: %v, %v", s, e)
	}
	zero := &Store{} // one that was not opened: it may be asked
	zero.Hold(all(), 1, recs("a"), nil)
	zero.Do(aPut(0, 1, "b", ""))
	zero.Freeze(all(), 1)
	zero.Drop(all(), 1)
	zero.List()
}

func TestMuch(t *testing.T) {
	s, m := holding(t, 16)
	for i := range 5000 {
		text := pick(func(n int) int { return i % n }, someTexts)
		if i%3 == 0 {
			s.Do(aDelete(i%4, i, text))
		} else {
			s.Do(aPut(i%4, i, text, fmt.Sprint(i)))
		}
	}
	checkOpen(t, "many asks", m, 16, whole(s))
	m = medium.New()
	s = open(t, m, 16)
	for i := range 1000 {
		at := (i * 377) % 1000
		x := api.Span{From: fmt.Sprintf("%04d", at), To: fmt.Sprintf("%04d", at+1)}
		want(t, "Hold", s.Hold(x, 1, nil, nil), api.OK)
	}
	l := s.List()
	want(t, "many spans", []any{len(l), l[0].Span.From, l[999].Span.From}, []any{1000, "0000", "0999"})
	checkOpen(t, "many spans", m, 16, whole(s))
}

// The reply of parcel that has 26 bytes beside its value is what tests of great answers lean on.
func TestGreatAnswersAreAtTheLimit(t *testing.T) {
	b, _ := parcel.Reply(api.Reply{})
	want(t, "an empty reply", len(b), 26)
}
