package span

import (
	"errors"
	"slices"
	"strings"
	"testing"

	"gazetteer/api"
)

// of makes a span.
func of(from, to string) api.Span { return api.Span{From: from, To: to} }

// keys rise, the empty one first; among them are beginnings of others, keys with nothing between, and bytes that are no text.
func keys() []string {
	return []string{"", "\x00", "\x00\x00", "\x00\x01", "a", "a\x00", "a\x00\x00", "aa", "b", "\x7f", "\x80", "\xc3\xa9", "\xff", "\xff\xff", strings.Repeat("\xff", api.MaxKey+1)}
}

// plain is a span, and which of the keys it has by their places alone, not by their bytes.
type plain struct {
	s   api.Span
	has []bool
}

// spans are all that two of the keys make. A key that tells one of them from another is among the keys: all that is told of them changes at a From or a To alone.
func spans() []plain {
	all := keys()
	var l []plain
	for i, from := range all {
		for j, to := range all {
			x := plain{of(from, to), make([]bool, len(all))}
			for at := range all {
				x.has[at] = i <= at && (j == 0 || at < j)
			}
			l = append(l, x)
		}
	}
	return l
}

// nothing tells whether none of the keys is in x.
func (x plain) nothing() bool { return !slices.Contains(x.has, true) }

func TestP5_1Has(t *testing.T) {
	for _, x := range []struct {
		s    api.Span
		key  string
		want bool
	}{
		{of("b", "d"), "c", true},
		{of("b", "d"), "d", false},
		{of("b", "d"), "b", true}, // not below From
		{of("b", "d"), "a", false},
		{of("b", "d"), "a\xff", false},
		{of("b", "d"), "b\x00", true},
		{of("b", "d"), "c\xff\xff", true},
		{of("b", "d"), "d\x00", false},
		{of("b", "d"), "e", false},
		{of("b", "d"), "", false},

		{api.Span{}, "", true},
		{api.Span{}, "a", true},
		{api.Span{}, "\xff\xff\xff", true},
		{of("", "d"), "", true},
		{of("", "d"), "d", false},
		{of("", "\x00"), "", true},
		{of("", "\x00"), "\x00", false},
		{of("b", ""), "b", true}, // an empty To: no end
		{of("b", ""), "\xff\xff", true},
		{of("b", ""), "a", false},
		{of("b", ""), "", false},
		{of("b", "b\x00"), "b", true},
		{of("b", "b\x00"), "b\x00", false},

		{of("b", "b"), "b", false},
		{of("d", "b"), "b", false},
		{of("d", "b"), "c", false},
		{of("d", "b"), "d", false},
		{of("d", "b"), "e", false},
	} {
		if got := Has(x.s, x.key); got != x.want {
			t.Errorf("Has(%+q, %+q): %v, want %v", x.s, x.key, got, x.want)
		}
	}
}

func TestP5_1Empty(t *testing.T) {
	for _, x := range []struct {
		s    api.Span
		want bool
	}{
		{api.Span{}, false},
		{of("", "\x00"), false},
		{of("", "b"), false},
		{of("b", ""), false},
		{of("\xff\xff", ""), false},
		{of("b", "d"), false},
		{of("b", "b\x00"), false},
		{of("b", "b"), true},
		{of("b\x00", "b"), true},
		{of("d", "b"), true},
		{of("\xff", "\x00"), true},
	} {
		if got := Empty(x.s); got != x.want {
			t.Errorf("Empty(%+q): %v, want %v", x.s, got, x.want)
		}
	}
}

func TestP5_1HasAndEmptyOfAllSpans(t *testing.T) {
	for _, x := range spans() {
		for at, key := range keys() {
			if got := Has(x.s, key); got != x.has[at] {
				t.Errorf("Has(%+q, %+q): %v", x.s, key, got)
			}
		}
		if got := Empty(x.s); got != x.nothing() {
			t.Errorf("Empty(%+q): %v", x.s, got)
		}
	}
}

func TestP5_1Within(t *testing.T) {
	for _, x := range []struct {
		a, b api.Span
		want bool
	}{
		{of("b", "d"), of("b", "d"), true},
		{of("b", "d"), of("a", "e"), true},
		{of("b", "d"), of("a", "d"), true},
		{of("b", "d"), of("b", "e"), true},
		{of("b", "d"), of("b", "c\xff"), false},
		{of("b", "d"), of("b\x00", "d"), false},
		{of("a", "e"), of("b", "d"), false},
		{of("a", "c"), of("b", "d"), false},
		{of("a", "b"), of("b", "d"), false},
		{of("d", "e"), of("b", "d"), false},

		{of("b", "d"), api.Span{}, true},
		{of("b", "d"), of("", "d"), true},
		{of("b", "d"), of("b", ""), true},
		{of("b", ""), of("b", ""), true},
		{of("b", ""), of("a", ""), true},
		{of("b", ""), of("b", "d"), false}, // no end is behind all ends
		{of("b", ""), of("b", "\xff\xff"), false},
		{of("a", ""), of("b", ""), false},
		{of("", "d"), of("", ""), true},
		{api.Span{}, api.Span{}, true},
		{api.Span{}, of("", "\xff"), false},
		{api.Span{}, of("\x00", ""), false},

		{of("d", "b"), of("x", "y"), true}, // of nothing all is in anything
		{of("d", "b"), of("e", "a"), true},
		{of("b", "b"), of("c", "c"), true},
		{of("d", "b"), api.Span{}, true},
		{of("b", "d"), of("d", "b"), false},
		{of("b", "d"), of("c", "c"), false},
		{api.Span{}, of("b", "b"), false},
	} {
		if got := Within(x.a, x.b); got != x.want {
			t.Errorf("Within(%+q, %+q): %v, want %v", x.a, x.b, got, x.want)
		}
	}
}

func TestP5_1WithinOfAllSpans(t *testing.T) {
	all := spans()
	for _, a := range all {
		for _, b := range all {
			want := true
			for at := range a.has {
				want = want && (b.has[at] || !a.has[at])
			}
			if got := Within(a.s, b.s); got != want {
				t.Fatalf("Within(%+q, %+q): %v, want %v", a.s, b.s, got, want)
			}
		}
	}
}

func TestP5_1Whole(t *testing.T) {
	for _, x := range []struct {
		l    []api.Span
		want bool
	}{
		{nil, false}, // at least one
		{[]api.Span{}, false},
		{[]api.Span{{}}, true},
		{[]api.Span{of("", "m"), of("m", "")}, true},
		{[]api.Span{of("", "\x00"), of("\x00", "\xff"), of("\xff", "")}, true},
		{[]api.Span{of("", "a"), of("a", "a\x00"), of("a\x00", "b"), of("b", "")}, true},

		{[]api.Span{of("", "m")}, false}, // not to the end
		{[]api.Span{of("m", "")}, false}, // not from the beginning
		{[]api.Span{of("\x00", "")}, false},
		{[]api.Span{of("a", "m")}, false},
		{[]api.Span{of("m", "m")}, false},
		{[]api.Span{of("", "m"), of("m", "x")}, false},
		{[]api.Span{of("a", "m"), of("m", "")}, false},

		{[]api.Span{of("", "m"), of("n", "")}, false},     // between them there is more
		{[]api.Span{of("", "m"), of("m\x00", "")}, false}, // m alone is missing
		{[]api.Span{of("", "n"), of("m", "")}, false},     // some are there twice
		{[]api.Span{of("", "m"), of("", "")}, false},
		{[]api.Span{of("m", ""), of("", "m")}, false}, // not in their order
		{[]api.Span{of("", "m"), of("", "m"), of("m", "")}, false},
		{[]api.Span{of("", "a"), of("b", "c"), of("a", "b"), of("c", "")}, false},

		{[]api.Span{{}, {}}, false}, // an empty To that is the next From ends all the same
		{[]api.Span{{}, {}, {}}, false},
		{[]api.Span{{}, of("", "m"), of("m", "")}, false},
		{[]api.Span{of("", "m"), of("m", ""), {}}, false},
		{[]api.Span{of("", "m"), of("m", ""), of("", "m"), of("m", "")}, false},

		{[]api.Span{of("", "m"), of("m", "m"), of("m", "")}, false}, // one that is Empty
		{[]api.Span{of("", "m"), of("m", "b"), of("b", "")}, false},
		{[]api.Span{of("", "m"), of("m", "b"), of("b", "m"), of("m", "")}, false},
		{[]api.Span{of("", "b"), of("b", "b"), of("b", "b"), of("b", "")}, false},
	} {
		all := slices.Clone(x.l)
		if got := Whole(x.l); got != x.want {
			t.Errorf("Whole(%+q): %v, want %v", x.l, got, x.want)
		}
		if !slices.Equal(x.l, all) {
			t.Errorf("Whole changed %+q to %+q", all, x.l)
		}
	}
}

// wholeByKeys tells by the keys alone whether l has each of them once, one span behind another, none without a key.
func wholeByKeys(l []plain) bool {
	next := 0
	for _, x := range l {
		if x.nothing() {
			return false
		}
		for at, has := range x.has {
			if has && at != next {
				return false
			}
			if has {
				next++
			}
		}
	}
	return next == len(keys())
}

func TestP5_1WholeOfAllShortLists(t *testing.T) {
	few := []string{"", "\x00", "a", "\xff"}
	some := slices.DeleteFunc(spans(), func(x plain) bool {
		return !slices.Contains(few, x.s.From) || !slices.Contains(few, x.s.To)
	})
	lists, whole := [][]plain{nil}, 0
	for range 4 {
		var longer [][]plain
		for _, l := range lists {
			for _, x := range some {
				longer = append(longer, append(slices.Clone(l), x))
			}
		}
		lists = longer
		for _, l := range lists {
			var given []api.Span
			for _, x := range l {
				given = append(given, x.s)
			}
			want := wholeByKeys(l)
			if Whole(given) != want {
				t.Fatalf("Whole(%+q): %v, want %v", given, !want, want)
			}
			if want {
				whole++
			}
		}
	}
	if whole != 1+3+3+1 { // cut at none, one, two or all of the three
		t.Errorf("%d lists were whole", whole)
	}
}

func TestP5_1WholeOfMuch(t *testing.T) {
	const many = 1 << 16
	cut := func(i int) string {
		if i == 0 || i == many {
			return ""
		}
		return string([]byte{byte(i >> 8), byte(i), 0})
	}
	var l []api.Span
	for i := range many {
		l = append(l, of(cut(i), cut(i+1)))
	}
	if !Whole(l) {
		t.Error("Whole of much: false")
	}
	if got := Find(l, itself, "\xff\xff"); got != many-2 {
		t.Errorf("Find in much: %d, want %d", got, many-2)
	}
	if got := Find(l, itself, "\xff\xff\x00"); got != many-1 {
		t.Errorf("Find of the last: %d, want %d", got, many-1)
	}
	l[many/2].From += "\x00"
	if Whole(l) {
		t.Error("Whole of much with a key that is missing: true")
	}
}

func itself(s api.Span) api.Span { return s }

func TestP5_1Find(t *testing.T) {
	for _, x := range []struct {
		l    []api.Span
		key  string
		want int
	}{
		{nil, "", -1},
		{[]api.Span{}, "a", -1},
		{[]api.Span{{}}, "", 0},
		{[]api.Span{{}}, "\xff", 0},
		{[]api.Span{of("", "m"), of("m", "")}, "", 0},
		{[]api.Span{of("", "m"), of("m", "")}, "l\xff", 0},
		{[]api.Span{of("", "m"), of("m", "")}, "m", 1},
		{[]api.Span{of("", "m"), of("m", "")}, "\xff", 1},
		{[]api.Span{of("b", "d"), of("f", "h")}, "a", -1},
		{[]api.Span{of("b", "d"), of("f", "h")}, "b", 0},
		{[]api.Span{of("b", "d"), of("f", "h")}, "d", -1},
		{[]api.Span{of("b", "d"), of("f", "h")}, "e", -1},
		{[]api.Span{of("b", "d"), of("f", "h")}, "g", 1},
		{[]api.Span{of("b", "d"), of("f", "h")}, "h", -1},
		{[]api.Span{of("b", "d"), of("f", "h")}, "", -1},

		{[]api.Span{of("f", "h"), of("b", "d"), of("d", "f")}, "c", 1}, // in whatever order
		{[]api.Span{of("f", "h"), of("b", "d"), of("d", "f")}, "e", 2},
		{[]api.Span{of("b", "d"), of("a", "z"), {}}, "c", 0}, // the first one of several
		{[]api.Span{of("b", "d"), of("a", "z"), {}}, "e", 1},
		{[]api.Span{of("b", "d"), of("a", "z"), {}}, "z", 2},
		{[]api.Span{of("b", "d"), of("b", "d"), of("b", "d"), of("b", "d")}, "c", 0},
		{[]api.Span{of("c", "c"), of("d", "b"), of("b", "d")}, "c", 2}, // ones that are Empty have no key
		{[]api.Span{of("c", "c"), of("d", "b")}, "c", -1},
	} {
		all := slices.Clone(x.l)
		if got := Find(x.l, itself, x.key); got != x.want {
			t.Errorf("Find(%+q, %+q): %d, want %d", x.l, x.key, got, x.want)
		}
		if !slices.Equal(x.l, all) {
			t.Errorf("Find changed %+q to %+q", all, x.l)
		}
	}
}

func TestP5_1FindInAllShortLists(t *testing.T) {
	all := spans()
	for i := range all {
		l := []plain{all[i], all[i*7%len(all)], all[i*31%len(all)]}
		for at, key := range keys() {
			want := slices.IndexFunc(l, func(x plain) bool { return x.has[at] })
			if got := Find(l, func(x plain) api.Span { return x.s }, key); got != want {
				t.Errorf("Find(%+q, %+q, %+q; %+q): %d, want %d", l[0].s, l[1].s, l[2].s, key, got, want)
			}
		}
	}
}

// room is something that has a span.
type room struct {
	name string
	s    api.Span
}

func (r room) span() api.Span { return r.s }

func (r *room) behind() api.Span { return r.s }

func TestP5_1FindOfWhateverHasASpan(t *testing.T) {
	rooms := []room{{"first", of("b", "d")}, {"second", of("d", "f")}, {"third", of("a", "f")}}
	if got := Find(rooms, room.span, "e"); got != 1 {
		t.Errorf("Find of structs: %d, want 1", got)
	}
	pointers := []*room{&rooms[0], &rooms[1], &rooms[2]}
	if got := Find(pointers, (*room).behind, "a"); got != 2 {
		t.Errorf("Find of pointers: %d, want 2", got)
	}
	met := []interface{ span() api.Span }{rooms[2], rooms[1]}
	if got := Find(met, func(x interface{ span() api.Span }) api.Span { return x.span() }, "d"); got != 0 {
		t.Errorf("Find of interfaces: %d, want 0", got)
	}
	if got := Find([]int{2, 1, 0}, func(i int) api.Span { return rooms[i].s }, "c"); got != 0 {
		t.Errorf("Find of numbers: %d, want 0", got)
	}
	if got := Find([]string{"x", "c", "e"}, func(key string) api.Span { return of(key, key+"\x00") }, "e"); got != 2 {
		t.Errorf("Find of texts: %d, want 2", got)
	}
	if got := Find(make([]struct{}, 3), func(struct{}) api.Span { return of("b", "d") }, "a"); got != -1 {
		t.Errorf("Find of nothings: %d, want -1", got)
	}
	if got := Find([][]api.Span{{of("b", "d")}, {of("d", "f")}}, func(l []api.Span) api.Span { return l[0] }, "d"); got != 1 {
		t.Errorf("Find of lists: %d, want 1", got)
	}
}

func TestP5_1FindOfNoFunction(t *testing.T) {
	for _, l := range [][]api.Span{nil, {}, {{}}, {of("b", "d"), {}}} {
		if got := Find(l, nil, ""); got != -1 {
			t.Errorf("Find(%+q, nil): %d, want -1", l, got)
		}
	}
}

func TestR1FindOfWhatPanics(t *testing.T) {
	l := []int{0, 1, 2}
	for _, what := range []any{nil, "no", 7, errors.New("no"), api.ErrArg} {
		if got := Find(l, func(int) api.Span { panic(what) }, "a"); got != -1 {
			t.Errorf("Find, where each panics with %v: %d, want -1", what, got)
		}
		if got := Find(l, func(i int) api.Span {
			if i == 1 {
				panic(what)
			}
			return of("b", "")
		}, "a"); got != -1 {
			t.Errorf("Find, where one panics with %v: %d, want -1", what, got)
		}
	}
	if got := Find([]*room{nil}, (*room).behind, "a"); got != -1 {
		t.Errorf("Find of a nil pointer: %d, want -1", got)
	}
	if got := Find([][]api.Span{nil}, func(l []api.Span) api.Span { return l[0] }, "a"); got != -1 {
		t.Errorf("Find beyond a list: %d, want -1", got)
	}
	if got := Find(l, func(i int) api.Span { return of("a", "b") }, "a"); got != 0 {
		t.Errorf("Find behind a panic: %d, want 0", got)
	}
}

func TestP5_2Meet(t *testing.T) {
	for _, x := range []struct{ a, b, want api.Span }{
		{of("b", "d"), of("b", "d"), of("b", "d")},
		{of("a", "c"), of("b", "d"), of("b", "c")},
		{of("a", "e"), of("b", "d"), of("b", "d")},
		{of("b", "d"), of("b", "c"), of("b", "c")},
		{of("b", "d"), of("c", "d"), of("c", "d")},
		{of("b", "d"), of("b", "b\x00"), of("b", "b\x00")},
		{api.Span{}, api.Span{}, api.Span{}},
		{api.Span{}, of("b", "d"), of("b", "d")},
		{api.Span{}, of("b", ""), of("b", "")},
		{api.Span{}, of("", "d"), of("", "d")},
		{of("b", ""), of("c", ""), of("c", "")},
		{of("b", ""), of("a", "d"), of("b", "d")}, // no end is behind all ends
		{of("", "d"), of("", "b"), of("", "b")},
		{of("", "d"), of("b", ""), of("b", "d")},
	} {
		if got := Meet(x.a, x.b); got != x.want {
			t.Errorf("Meet(%+q, %+q): %+q, want %+q", x.a, x.b, got, x.want)
		}
		if got := Meet(x.b, x.a); got != x.want {
			t.Errorf("Meet(%+q, %+q): %+q, want %+q", x.b, x.a, got, x.want)
		}
	}
}

func TestP5_2MeetOfWhatHasNothing(t *testing.T) {
	for _, x := range []struct{ a, b api.Span }{
		{of("a", "b"), of("b", "c")}, // one ends where the other begins
		{of("", "b"), of("b", "")},
		{of("a", "b"), of("c", "d")},
		{of("", "\x00"), of("\x00", "")},
		{of("d", "b"), api.Span{}}, // one is Empty
		{of("b", "b"), of("b", "b\x00")},
		{of("b", "b"), of("", "")},
		{of("d", "b"), of("a", "e")},
		{of("d", "b"), of("b", "c")},
		{of("d", "b"), of("e", "a")}, // both are
		{of("b", "b"), of("c", "c")},
		{of("b", "b"), of("b", "b")},
	} {
		for _, m := range []api.Span{Meet(x.a, x.b), Meet(x.b, x.a)} {
			if !Empty(m) {
				t.Errorf("Meet(%+q, %+q): %+q, which is not Empty", x.a, x.b, m)
			}
			for _, key := range keys() {
				if Has(m, key) {
					t.Errorf("Meet(%+q, %+q): %+q, which has %+q", x.a, x.b, m, key)
				}
			}
		}
	}
}

func TestP5_2MeetOfAllSpans(t *testing.T) {
	all, known := spans(), keys()
	for _, a := range all {
		for _, b := range all {
			m, some := Meet(a.s, b.s), false
			for at, key := range known {
				want := a.has[at] && b.has[at]
				some = some || want
				if Has(m, key) != want {
					t.Fatalf("Meet(%+q, %+q): %+q; Has of %+q: %v, want %v", a.s, b.s, m, key, !want, want)
				}
			}
			if Empty(m) == some {
				t.Fatalf("Meet(%+q, %+q): %+q; Empty: %v", a.s, b.s, m, some)
			}
		}
	}
}
