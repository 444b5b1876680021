package spool

import (
	"cmp"
	"errors"
	"math"
	"runtime"
	"slices"
	"strconv"
	"strings"
	"testing"
	"time"
	"weak"

	"gazetteer/api"
)

// plain is a list of numbers: what a spool of most of them should be.
type plain struct {
	most int
	l    []int
}

func (p *plain) push(x int) bool {
	if len(p.l) >= p.most {
		return false
	}
	p.l = append(p.l, x)
	return true
}

func (p *plain) at(i int) (int, bool) {
	for place, x := range p.l {
		if place == i {
			return x, true
		}
	}
	return 0, false
}

func (p *plain) pick(i int) (int, bool) {
	x, there := p.at(i)
	var rest []int
	for place, x := range p.l {
		if place != i {
			rest = append(rest, x)
		}
	}
	p.l = rest
	return x, there
}

// same holds what a spool answers of all its places, and of some that it has not, against what it should be.
func same(t *testing.T, s *Spool[int], p plain) {
	t.Helper()
	if s.Len() != len(p.l) {
		t.Fatalf("Len: %d, want %d", s.Len(), len(p.l))
	}
	for i := -2; i < len(p.l)+3; i++ {
		x, there := s.At(i)
		if want, is := p.at(i); x != want || there != is {
			t.Fatalf("At(%d): %d, %v of %v", i, x, there, p.l)
		}
	}
}

// filled answers a spool of that many numbers, and what it should be.
func filled(many int) (*Spool[int], plain) {
	s, p := New[int](many), plain{most: many}
	for i := range many {
		s.Push(100 + i)
		p.push(100 + i)
	}
	return s, p
}

// dice answers numbers that look like any, the same each time.
func dice() func(most int) int {
	state := uint64(7)
	return func(most int) int {
		state = state*6364136223846793005 + 1442695040888963407
		return int(state>>33) % most
	}
}

func TestP7_1OfNothing(t *testing.T) {
	s := New[int](3)
	same(t, s, plain{})
	if x, there := s.Pick(0); x != 0 || there {
		t.Errorf("Pick: %d, %v", x, there)
	}
	if l := s.Drain(); len(l) != 0 {
		t.Errorf("Drain: %v", l)
	}
	same(t, s, plain{})
	if !s.Push(7) {
		t.Error("Push behind these: false")
	}
	same(t, s, plain{l: []int{7}})
}

func TestP7_1Push(t *testing.T) {
	for most := range 20 {
		s, p := New[int](most), plain{most: most}
		for x := range most + 3 {
			got := s.Push(x)
			if want := p.push(x); got != want || want != (x < most) {
				t.Errorf("Push(%d), at most %d: %v", x, most, got)
			}
			same(t, s, p)
		}
	}
}

func TestP7_1RoomForNone(t *testing.T) {
	for _, most := range []int{0, -1, -2, math.MinInt} {
		s := New[int](most)
		if s == nil {
			t.Errorf("New(%d): nil", most)
		}
		for x := range 3 {
			if s.Push(x) {
				t.Errorf("Push(%d), at most %d: true", x, most)
			}
		}
		same(t, s, plain{})
		if x, there := s.Pick(0); x != 0 || there || len(s.Drain()) != 0 {
			t.Errorf("Pick, at most %d: %d, %v", most, x, there)
		}
	}
}

func TestP7_1RoomForMore(t *testing.T) {
	for _, most := range []int{1 << 20, math.MaxInt32, math.MaxInt - 1, math.MaxInt} { // what isn't there yet takes no memory
		s, p := New[int](most), plain{most: most}
		for x := range 100 {
			if !s.Push(x) || !p.push(x) {
				t.Errorf("Push(%d), at most %d: false", x, most)
			}
		}
		same(t, s, p)
	}
}

func TestP7_1RoomAgain(t *testing.T) {
	s, p := filled(3)
	for x := range 50 { // what is picked makes room for just one
		i := x * 7 % 3
		got, _ := s.Pick(i)
		if want, _ := p.pick(i); got != want {
			t.Fatalf("Pick(%d): %d, want %d", i, got, want)
		}
		if !s.Push(x) || s.Push(-1) || !p.push(x) {
			t.Fatalf("Push(%d) behind Pick(%d)", x, i)
		}
		same(t, s, p)
	}
	if l := s.Drain(); !slices.Equal(l, p.l) {
		t.Errorf("Drain: %v, want %v", l, p.l)
	}
	for x := range 5 {
		if got := s.Push(x); got != (x < 3) {
			t.Errorf("Push(%d) behind Drain: %v", x, got)
		}
	}
}

func TestP7_1Pick(t *testing.T) {
	for many := range 12 {
		for i := -2; i < many+2; i++ {
			s, p := filled(many)
			x, there := s.Pick(i)
			if want, is := p.pick(i); x != want || there != is {
				t.Errorf("Pick(%d) of %d: %d, %v", i, many, x, there)
			}
			same(t, s, p) // those behind it moved up, the others stand as they stood
		}
		for _, i := range []int{math.MinInt, math.MinInt32, math.MaxInt32, math.MaxInt} {
			s, p := filled(many)
			if x, there := s.Pick(i); x != 0 || there {
				t.Errorf("Pick(%d) of %d: %d, %v", i, many, x, there)
			}
			if x, there := s.At(i); x != 0 || there {
				t.Errorf("At(%d) of %d: %d, %v", i, many, x, there)
			}
			same(t, s, p)
		}
	}
}

func TestP7_1AllPicksOfFew(t *testing.T) {
	var pick func(s *Spool[int], p plain, done []int)
	again := func(done []int) (*Spool[int], plain) {
		s, p := filled(6)
		for _, i := range done {
			s.Pick(i)
			p.pick(i)
		}
		return s, p
	}
	pick = func(s *Spool[int], p plain, done []int) {
		same(t, s, p)
		for i := range p.l {
			next := append(slices.Clone(done), i)
			s, p := again(next)
			pick(s, p, next)
		}
	}
	s, p := filled(6)
	pick(s, p, nil)
}

func TestP7_1Drain(t *testing.T) {
	for many := range 12 {
		s, p := filled(many)
		if many > 2 {
			s.Pick(0)
			s.Pick(1)
			p.pick(0)
			p.pick(1)
		}
		if l := s.Drain(); !slices.Equal(l, p.l) {
			t.Errorf("Drain of %d: %v, want %v", many, l, p.l)
		}
		same(t, s, plain{})
		if l := s.Drain(); len(l) != 0 {
			t.Errorf("Drain again: %v", l)
		}
		if x, there := s.Pick(0); x != 0 || there {
			t.Errorf("Pick behind Drain: %d, %v", x, there)
		}
	}
}

func TestP7_1AsAPlainList(t *testing.T) {
	roll := dice()
	for _, most := range []int{1, 2, 3, 10, 60} {
		s, p := New[int](most), plain{most: most}
		for x := range 5000 {
			switch n := roll(100); {
			case n < 20+60*(x/500%2): // by turns it grows, and shrinks
				if got, want := s.Push(x), p.push(x); got != want {
					t.Fatalf("Push(%d): %v, want %v", x, got, want)
				}
			case n < 99:
				i := roll(most+2) - 1
				got, there := s.Pick(i)
				if want, is := p.pick(i); got != want || there != is {
					t.Fatalf("Pick(%d): %d, %v, want %d, %v", i, got, there, want, is)
				}
			default:
				if l := s.Drain(); !slices.Equal(l, p.l) {
					t.Fatalf("Drain: %v, want %v", l, p.l)
				}
				p.l = nil
			}
			same(t, s, p)
		}
	}
}

func TestP7_1OfMuch(t *testing.T) {
	const many = 1 << 18
	for name, place := range map[string]func(left int) int{
		"the oldest": func(left int) int { return 0 },
		"the newest": func(left int) int { return left - 1 },
		"by turns":   func(left int) int { return left % 2 * (left - 1) },
	} {
		s, _ := filled(many)
		if s.Push(0) {
			t.Errorf("%s: Push beyond %d: true", name, many)
		}
		seen := make([]bool, many)
		for left := many; left > 0; left-- {
			i := place(left)
			want, _ := s.At(i)
			x, there := s.Pick(i)
			if x != want || !there || seen[x-100] || s.Len() != left-1 {
				t.Fatalf("%s: Pick(%d) of %d: %d, %v", name, i, left, x, there)
			}
			seen[x-100] = true
		}
		if _, there := s.Pick(0); there {
			t.Errorf("%s: more than %d", name, many)
		}
	}
}

// parcel is something of several parts.
type parcel struct {
	name string
	l    []int
}

func TestP7_1OfWhateverItems(t *testing.T) {
	parcels := New[parcel](2)
	parcels.Push(parcel{"a", []int{1}})
	parcels.Push(parcel{name: "b"})
	if x, there := parcels.Pick(1); x.name != "b" || x.l != nil || !there {
		t.Errorf("Pick of structs: %v, %v", x, there)
	}
	if x, there := parcels.Pick(1); x.name != "" || x.l != nil || there {
		t.Errorf("Pick of structs, where none is: %v, %v", x, there)
	}
	if x, there := parcels.At(0); x.name != "a" || !slices.Equal(x.l, []int{1}) || !there {
		t.Errorf("At of structs: %v, %v", x, there)
	}
	errs := New[error](3)
	for _, e := range []error{api.ErrFull, nil, errors.New("x")} { // what is nil is there, too
		if !errs.Push(e) {
			t.Errorf("Push(%v): false", e)
		}
	}
	if x, there := errs.Pick(1); x != nil || !there {
		t.Errorf("Pick of nil: %v, %v", x, there)
	}
	if x, there := errs.Pick(0); x != api.ErrFull || !there || errs.Len() != 1 {
		t.Errorf("Pick of an error: %v, %v", x, there)
	}
	calls := New[func() int](1)
	calls.Push(func() int { return 7 })
	if l := calls.Drain(); len(l) != 1 || l[0]() != 7 {
		t.Error("Drain of functions")
	}
	nothings := New[struct{}](2)
	nothings.Push(struct{}{})
	nothings.Push(struct{}{})
	if nothings.Push(struct{}{}) || nothings.Len() != 2 {
		t.Error("Push of nothings beyond what there is room for")
	}
	if _, there := nothings.Pick(0); !there || nothings.Len() != 1 {
		t.Error("Pick of nothings")
	}
}

func TestP7_1TwoSpoolsHaveNothingInCommon(t *testing.T) {
	a, b := New[int](2), New[int](2)
	a.Push(1)
	if b.Len() != 0 {
		t.Error("one spool has what was pushed into another")
	}
	b.Push(2)
	a.Pick(0)
	same(t, a, plain{})
	same(t, b, plain{l: []int{2}})
}

func TestR4DrainIsNewMemory(t *testing.T) {
	for _, picks := range [][]int{nil, {0}, {4}, {0, 0, 1}, {4, 3}} {
		s, p := filled(5)
		for _, i := range picks {
			s.Pick(i)
			p.pick(i)
		}
		l := s.Drain()
		for x := range 5 {
			s.Push(x)
		}
		if !slices.Equal(l, p.l) {
			t.Errorf("Push changed what Drain answered to %v, want %v", l, p.l)
		}
		for i := range l[:cap(l)] {
			l[:cap(l)][i] = -1
		}
		same(t, s, plain{l: []int{0, 1, 2, 3, 4}})
	}
}

func TestP7_1WhatIsTakenOutIsLetGo(t *testing.T) {
	for name, place := range map[string]int{"first": 0, "second": 1, "middle": 5, "last": 9, "all": -1} {
		s := New[*parcel](10)
		var known []weak.Pointer[parcel]
		for i := range 10 {
			x := &parcel{name: strconv.Itoa(i)}
			known = append(known, weak.Make(x))
			s.Push(x)
		}
		if place < 0 {
			s.Drain()
		} else {
			s.Pick(place)
		}
		runtime.GC()
		for i, x := range known {
			if held := x.Value() != nil; held == (i == place || place < 0) {
				t.Errorf("%s taken out: %d is held: %v", name, i, held)
			}
		}
		runtime.KeepAlive(s)
	}
}

func TestR7NilSpool(t *testing.T) {
	for name, s := range map[string]*Spool[string]{"nil": nil, "a zero value": {}} {
		for range 3 {
			if s.Push("a") {
				t.Errorf("%s: Push: true", name)
			}
		}
		for _, i := range []int{-1, 0, 1, math.MinInt, math.MaxInt} {
			if x, there := s.Pick(i); x != "" || there {
				t.Errorf("%s: Pick(%d): %q, %v", name, i, x, there)
			}
			if x, there := s.At(i); x != "" || there {
				t.Errorf("%s: At(%d): %q, %v", name, i, x, there)
			}
		}
		if l := s.Drain(); s.Len() != 0 || len(l) != 0 {
			t.Errorf("%s: Len %d, Drain %v", name, s.Len(), l)
		}
	}
}

// item is a number with the row and the place that it has there.
type item struct{ n, row, place int }

func byNumber(a, b item) int { return cmp.Compare(a.n, b.n) }

// items answers rows of items with those numbers.
func items(rows [][]int) [][]item {
	var l [][]item
	for row, numbers := range rows {
		var one []item
		for place, n := range numbers {
			one = append(one, item{n, row, place})
		}
		l = append(l, one)
	}
	return l
}

// joined answers by plain words what Join should: of all items that are left always the first of the least.
func joined(rows [][]item) []item {
	left := slices.Concat(rows...)
	var all []item
	for len(left) > 0 {
		at := 0
		for i, x := range left {
			if x.n < left[at].n {
				at = i
			}
		}
		all = append(all, left[at])
		left = slices.Delete(left, at, at+1)
	}
	return all
}

// fanned answers by plain words what Fan should.
func fanned(rows [][]item) []item {
	longest := 0
	for _, row := range rows {
		longest = max(longest, len(row))
	}
	var all []item
	for place := range longest {
		for _, row := range rows {
			if place < len(row) {
				all = append(all, row[place])
			}
		}
	}
	return all
}

// texts answers rows of texts: one word a row, a text a letter.
func texts(words string) [][]string {
	var rows [][]string
	for word := range strings.SplitSeq(words, " ") {
		var row []string
		for _, r := range word {
			row = append(row, string(r))
		}
		rows = append(rows, row)
	}
	return rows
}

func TestP7_2Join(t *testing.T) {
	for _, x := range []struct{ rows, want string }{
		{"", ""},
		{"a", "a"},
		{"abc", "abc"},
		{"ab c", "abc"},
		{"c ab", "abc"},
		{"b ac", "abc"},
		{"ac b", "abc"},
		{"ace bdf", "abcdef"},
		{"bdf ace", "abcdef"},
		{"ad be cf", "abcdef"},
		{"cf be ad", "abcdef"},
		{"  abc ", "abc"},
		{" b  a ", "ab"},
		{"aab abb", "aaabbb"},
		{"z y x w v u t s r q p", "pqrstuvwxyz"},
		{"a bcdefg", "abcdefg"},
		{"g abcdef", "abcdefg"},
		{"b a c a b", "aabbc"},
	} {
		rows := texts(x.rows)
		if got := strings.Join(Join(rows, strings.Compare), ""); got != x.want {
			t.Errorf("Join of %q: %q, want %q", x.rows, got, x.want)
		}
	}
}

func TestP7_2JoinOfNone(t *testing.T) {
	for _, rows := range [][][]int{nil, {}, {nil}, {{}}, {nil, {}, nil}, make([][]int, 100)} {
		for _, compare := range []func(a, b int) int{cmp.Compare[int], nil} {
			if got := Join(rows, compare); len(got) != 0 {
				t.Errorf("Join of %v: %v", rows, got)
			}
		}
	}
}

func TestP7_2JoinOfThoseThatAreAlike(t *testing.T) {
	for _, x := range []struct {
		rows [][]int
		want []item
	}{
		{[][]int{{1, 1}, {1}}, []item{{1, 0, 0}, {1, 0, 1}, {1, 1, 0}}},
		{[][]int{{1}, {1, 1}}, []item{{1, 0, 0}, {1, 1, 0}, {1, 1, 1}}},
		{[][]int{{2}, {1, 2}, {2}}, []item{{1, 1, 0}, {2, 0, 0}, {2, 1, 1}, {2, 2, 0}}},
		{[][]int{{1, 2}, {1, 2}, {1, 2}}, []item{{1, 0, 0}, {1, 1, 0}, {1, 2, 0}, {2, 0, 1}, {2, 1, 1}, {2, 2, 1}}},
		{[][]int{{2, 3}, {1, 2}, {}, {1, 3, 3}}, []item{{1, 1, 0}, {1, 3, 0}, {2, 0, 0}, {2, 1, 1}, {3, 0, 1}, {3, 3, 1}, {3, 3, 2}}},
	} {
		if got := Join(items(x.rows), byNumber); !slices.Equal(got, x.want) {
			t.Errorf("Join of %v: %v, want %v", x.rows, got, x.want)
		}
	}
	same := items([][]int{{3, 1}, {2, 5, 4}, {}, {1}})
	if got := Join(same, func(a, b item) int { return 0 }); !slices.Equal(got, slices.Concat(same...)) { // where all are alike: as without an order
		t.Errorf("Join of what is alike: %v", got)
	}
}

// shortRows answers all rows of at most most numbers below top that rise.
func shortRows(most, top int) [][]int {
	all := [][]int{nil}
	for last := all; most > 0; most-- {
		var longer [][]int
		for _, row := range last {
			for n := range top {
				if len(row) == 0 || n >= row[len(row)-1] {
					longer = append(longer, append(slices.Clone(row), n))
				}
			}
		}
		all = append(all, longer...)
		last = longer
	}
	return all
}

func TestP7_2JoinAndFanOfAllShortRows(t *testing.T) {
	rows := shortRows(3, 3)
	few := shortRows(2, 2)
	check := func(numbers ...[]int) {
		l := items(numbers)
		if got, want := Join(l, byNumber), joined(l); !slices.Equal(got, want) {
			t.Fatalf("Join of %v: %v, want %v", numbers, got, want)
		}
		if got, want := Fan(l), fanned(l); !slices.Equal(got, want) {
			t.Fatalf("Fan of %v: %v, want %v", numbers, got, want)
		}
	}
	for _, a := range rows {
		check(a)
		for _, b := range rows {
			check(a, b)
			for _, c := range few {
				check(a, c, b)
			}
		}
	}
	for _, a := range few {
		for _, b := range few {
			for _, c := range few {
				for _, d := range few {
					check(a, b, c, d)
				}
			}
		}
	}
}

func TestP7_2JoinAndFanOfManyShapes(t *testing.T) {
	roll := dice()
	for many := range 3*wide + 3 {
		for range 20 {
			numbers := make([][]int, many)
			for row := range numbers {
				for range roll(1 + roll(12)) {
					numbers[row] = append(numbers[row], roll(6))
				}
				slices.Sort(numbers[row])
			}
			l := items(numbers)
			if got, want := Join(l, byNumber), joined(l); !slices.Equal(got, want) {
				t.Fatalf("Join of %v: %v, want %v", numbers, got, want)
			}
			if got, want := Fan(l), fanned(l); !slices.Equal(got, want) {
				t.Fatalf("Fan of %v: %v, want %v", numbers, got, want)
			}
		}
	}
}

func TestP7_2JoinByWhateverOrder(t *testing.T) {
	down := func(a, b int) int { return cmp.Compare(b, a) }
	if got := Join([][]int{{9, 5, 1}, {8, 5}, {10}}, down); !slices.Equal(got, []int{10, 9, 8, 5, 5, 1}) {
		t.Errorf("Join of a falling order: %v", got)
	}
	far := func(a, b int) int { // however far from 0, and with no number against it
		switch {
		case a < b:
			return math.MinInt
		case a > b:
			return math.MaxInt
		}
		return 0
	}
	if got := Join([][]int{{math.MinInt, 0, math.MaxInt}, {math.MinInt, 3}, {-1, math.MaxInt}}, far); !slices.Equal(got, []int{math.MinInt, math.MinInt, -1, 0, 3, math.MaxInt, math.MaxInt}) {
		t.Errorf("Join by numbers far from 0: %v", got)
	}
	names := [][]string{{"a", "B"}, {"A", "b", "C"}, {"b"}}
	caseless := func(a, b string) int { return strings.Compare(strings.ToLower(a), strings.ToLower(b)) }
	if got := strings.Join(Join(names, caseless), ""); got != "aABbbC" {
		t.Errorf("Join of names: %q", got)
	}
	lists := [][][]int{{{1}, {2, 1}}, {nil, {1, 5}}}
	if got := Join(lists, slices.Compare[[]int]); len(got) != 4 || got[0] != nil || got[3][0] != 2 || len(got[1]) != 1 {
		t.Errorf("Join of lists: %v", got)
	}
}

func TestP7_2JoinWithoutAnOrder(t *testing.T) {
	for _, x := range []struct{ rows, want string }{
		{"", ""}, {"cab", "cab"}, {"b a", "ba"}, {"cb a  ab z", "cbaabz"}, {" z ", "z"}, {"aa a", "aaa"},
	} {
		if got := strings.Join(Join(texts(x.rows), nil), ""); got != x.want {
			t.Errorf("Join of %q with nil: %q, want %q", x.rows, got, x.want)
		}
	}
	l := items([][]int{{3, 1}, {2}, {}, {1, 2, 3}})
	if got := Join(l, nil); !slices.Equal(got, slices.Concat(l...)) {
		t.Errorf("Join with nil: %v", got)
	}
	if got := Join([][]func(){{nil, nil}, {nil}}, nil); len(got) != 3 { // there is no order of these
		t.Errorf("Join of functions with nil: %d", len(got))
	}
}

func TestP7_2JoinOfMuch(t *testing.T) {
	const many = 1 << 16
	one, each, none := make([]int, many), make([][]int, many), make([][]int, many)
	for i := range many {
		one[i] = i
		each[i] = []int{many - 1 - i}
	}
	none[many/2] = one
	for name, rows := range map[string][][]int{"one row": {one}, "a row each": each, "one among rows of none": none, "twice one of two": {one[:many/2], one[many/2:]}} {
		calls := 0
		got := Join(rows, func(a, b int) int { calls++; return cmp.Compare(a, b) })
		if !slices.Equal(got, one) {
			t.Errorf("Join of %s", name)
		}
		if calls > many*17 {
			t.Errorf("Join of %s compares %d times", name, calls)
		}
	}
}

func TestP7_2TheExample(t *testing.T) {
	if got := Fan(texts("ab c")); !slices.Equal(got, []string{"a", "c", "b"}) {
		t.Errorf("Fan: %q", got)
	}
}

func TestP7_2Fan(t *testing.T) {
	for _, x := range []struct{ rows, want string }{
		{"", ""},
		{"a", "a"},
		{"abc", "abc"},
		{"ab c", "acb"},
		{"a bc", "abc"},
		{"abc def", "adbecf"},
		{"abc  d", "adbc"},
		{" abc", "abc"},
		{"   a ", "a"},
		{"a b c", "abc"},
		{"c b a", "cba"},
		{"a bcd ef", "abecfd"},
		{"abcd e fgh", "aefbgchd"},
		{"aa aa", "aaaa"},
		{"a b c d e f g h", "abcdefgh"}, // as many as one select has
		{"ai b c d e f g hj", "abcdefghij"},
		{"a b c d e f g h i", "abcdefghi"}, // and one more
		{"aj b c d e f g h ik", "abcdefghijk"},
		{"a b c d e f g h i j k l m n o p q", "abcdefghijklmnopq"},
		{"        a", "a"},
		{"a       b b c", "abbc"},
	} {
		if got := strings.Join(Fan(texts(x.rows)), ""); got != x.want {
			t.Errorf("Fan of %q: %q, want %q", x.rows, got, x.want)
		}
	}
}

func TestP7_2FanOfNone(t *testing.T) {
	for _, rows := range [][][]int{nil, {}, {nil}, {{}}, {nil, {}, nil}, make([][]int, 100)} {
		if got := Fan(rows); len(got) != 0 {
			t.Errorf("Fan of %v: %v", rows, got)
		}
	}
}

func TestP7_2FanOfWhateverItems(t *testing.T) {
	errs := [][]error{{nil, api.ErrFull}, {api.ErrNone, nil, nil}}
	if got, want := Fan(errs), []error{nil, api.ErrNone, api.ErrFull, nil, nil}; !slices.Equal(got, want) { // what is nil is sent, too
		t.Errorf("Fan of errors: %v, want %v", got, want)
	}
	calls := Fan([][]func() int{{func() int { return 1 }, nil}, {func() int { return 2 }}})
	if len(calls) != 3 || calls[0]() != 1 || calls[1]() != 2 || calls[2] != nil {
		t.Errorf("Fan of functions: %d", len(calls))
	}
	if got := Fan([][]struct{}{make([]struct{}, 5), nil, make([]struct{}, 7)}); len(got) != 12 {
		t.Errorf("Fan of nothings: %d", len(got))
	}
	var great [1 << 17]byte
	great[7] = 7
	if got := Fan([][][1 << 17]byte{{great}, {{}, great}}); len(got) != 3 || got[0] != great || got[1][7] != 0 || got[2] != great { // none that a channel has room for
		t.Errorf("Fan of great items: %d", len(got))
	}
	pipes := Fan([][]chan int{{make(chan int, 1)}, {nil}})
	if len(pipes) != 2 || cap(pipes[0]) != 1 || pipes[1] != nil {
		t.Errorf("Fan of channels: %v", pipes)
	}
}

func TestP7_2FanOfMuch(t *testing.T) {
	const many = 1 << 15
	one, each, none := make([]int, many), make([][]int, many), make([][]int, many)
	for i := range many {
		one[i] = i
		each[i] = one[i : i+1]
	}
	none[many/2] = one
	for name, rows := range map[string][][]int{"one row": {one}, "a row each": each, "one among rows of none": none} {
		if got := Fan(rows); !slices.Equal(got, one) {
			t.Errorf("Fan of %s", name)
		}
	}
	longest := append(slices.Clone(each), one)
	if got, want := Fan(longest), slices.Concat(one, one); !slices.Equal(got, want) {
		t.Error("Fan of one row behind many")
	}
}

func TestP7_2FanWhateverRunsFirst(t *testing.T) {
	var numbers [][]int
	roll := dice()
	for range 30 {
		numbers = append(numbers, make([]int, roll(40)))
	}
	rows := items(numbers)
	want := fanned(rows)
	defer runtime.GOMAXPROCS(runtime.GOMAXPROCS(0))
	for _, procs := range []int{1, 2, 3, 8, 64} {
		runtime.GOMAXPROCS(procs)
		for range 100 {
			if got := Fan(rows); !slices.Equal(got, want) {
				t.Fatalf("Fan, %d at a time: %v, want %v", procs, got, want)
			}
		}
	}
}

func TestP7_2AllGoroutinesHaveEnded(t *testing.T) {
	before := runtime.NumGoroutine()
	for range 50 {
		Fan(items([][]int{{1, 2, 3}, nil, {}, {4}, make([]int, 100), {5}, {6}, {7}, {8}, {9}, {10, 11}}))
	}
	for range 1000 { // one that has done all its work may be on its way out yet
		if runtime.NumGoroutine() <= before {
			return
		}
		time.Sleep(time.Millisecond)
	}
	t.Errorf("%d goroutines, and %d before", runtime.NumGoroutine(), before)
}

func TestR4JoinAndFanChangeNothing(t *testing.T) {
	for name, do := range map[string]func(rows [][]int) []int{
		"Join":          func(rows [][]int) []int { return Join(rows, cmp.Compare[int]) },
		"Join with nil": func(rows [][]int) []int { return Join(rows, nil) },
		"Fan":           Fan[int],
	} {
		for _, numbers := range [][][]int{{{1, 3, 5}}, {{1, 3, 5}, {2, 4}}, {{1}, {2}, {3}}, {{7}, nil, {2}}, {nil, {1, 2}}, {{1, 2}, nil}} {
			room := make([][]int, 0, len(numbers)+3) // rows with spare room, one of them behind those that are handed in
			for _, row := range append(slices.Clone(numbers), []int{90, 91}) {
				room = append(room, append(make([]int, 0, len(row)+5), row...))
				spare := room[len(room)-1]
				for i := len(row); i < cap(spare); i++ {
					spare[:cap(spare)][i] = -9
				}
			}
			rows := room[:len(numbers)]
			got := do(rows)
			for i := range got[:cap(got)] {
				got[:cap(got)][i] = -1
			}
			for i, row := range room {
				want := append(slices.Clone(numbers), []int{90, 91})[i]
				spare := row[len(row):cap(row)]
				if !slices.Equal(row, want) || slices.ContainsFunc(spare, func(x int) bool { return x != -9 }) {
					t.Errorf("%s of %v: row %d is %v, and %v behind it", name, numbers, i, row, spare)
				}
			}
			if rest := room[len(room):cap(room)]; slices.ContainsFunc(rest, func(row []int) bool { return row != nil }) {
				t.Errorf("%s of %v: %v behind the rows", name, numbers, rest)
			}
			if again := do(rows); slices.Contains(again, -1) {
				t.Errorf("%s of %v again: %v", name, numbers, again)
			}
		}
	}
}

func TestR1CompareThatPanics(t *testing.T) {
	rows := [][]int{{1, 4, 7}, {2, 5, 8}, {3, 6}, nil, {0, 9}}
	calls := 0
	want := Join(rows, func(a, b int) int { calls++; return cmp.Compare(a, b) })
	for _, what := range []any{nil, "no", 7, errors.New("no"), api.ErrArg} {
		for most := range calls {
			left := most
			got := Join(rows, func(a, b int) int {
				if left == 0 {
					panic(what)
				}
				left--
				return cmp.Compare(a, b)
			})
			if len(got) != 0 {
				t.Errorf("Join, where compare panics with %v behind %d calls: %v", what, most, got)
			}
		}
	}
	if got := Join(rows, cmp.Compare[int]); !slices.Equal(got, want) {
		t.Errorf("Join behind a panic: %v, want %v", got, want)
	}
	errs := [][]error{{nil, nil}, {nil}}
	if got := Join(errs, func(a, b error) int { return strings.Compare(a.Error(), b.Error()) }); len(got) != 0 {
		t.Errorf("Join of nils by what they say: %v", got)
	}
}

func TestR1CompareThatIsNoOrder(t *testing.T) {
	roll := dice()
	for name, compare := range map[string]func(a, b item) int{
		"always less": func(a, b item) int { return -1 },
		"always more": func(a, b item) int { return 1 },
		"any":         func(a, b item) int { return roll(3) - 1 },
		"falling":     func(a, b item) int { return byNumber(b, a) }, // of rows that rise
	} {
		rows := items([][]int{{1, 2, 3}, {1, 5}, nil, {4, 4, 4, 4}, {0}, {2, 9}})
		got := Join(rows, compare)
		slices.SortFunc(got, func(a, b item) int { return cmp.Or(cmp.Compare(a.row, b.row), cmp.Compare(a.place, b.place)) })
		if !slices.Equal(got, slices.Concat(rows...)) { // each item is there just once
			t.Errorf("Join, where compare is %s: %v", name, got)
		}
	}
}
