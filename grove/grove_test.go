package grove

import (
	"cmp"
	"errors"
	"math"
	"math/bits"
	"slices"
	"strconv"
	"strings"
	"testing"

	"gazetteer/api"
)

// pair is a key and its value.
type pair[K, V any] struct {
	k K
	v V
}

// walked answers all that Walk shows.
func walked[K, V any](g *Grove[K, V], from K) []pair[K, V] {
	var l []pair[K, V]
	g.Walk(from, func(k K, v V) bool {
		l = append(l, pair[K, V]{k, v})
		return true
	})
	return l
}

// plain is a list of pairs that rise: what a grove of numbers should be.
type plain []pair[int, int]

func (p plain) place(k int) (int, bool) {
	return slices.BinarySearchFunc(p, k, func(x pair[int, int], k int) int { return cmp.Compare(x.k, k) })
}

func (p *plain) put(k, v int) bool {
	at, there := p.place(k)
	if there {
		(*p)[at].v = v
	} else {
		*p = slices.Insert(*p, at, pair[int, int]{k, v})
	}
	return there
}

func (p *plain) take(k int) (int, bool) {
	at, there := p.place(k)
	if !there {
		return 0, false
	}
	v := (*p)[at].v
	*p = slices.Delete(*p, at, at+1)
	return v, true
}

func (p plain) from(k int) []pair[int, int] {
	at, _ := p.place(k)
	return p[at:]
}

// same holds all that a grove answers, of keys from low to high, against what it should be.
func same(t *testing.T, g *Grove[int, int], p plain, low, high int) {
	t.Helper()
	if g.Len() != len(p) {
		t.Fatalf("Len: %d, want %d", g.Len(), len(p))
	}
	balanced(t, g)
	k, v, there := g.Least()
	if len(p) == 0 && (k != 0 || v != 0 || there) || len(p) > 0 && (k != p[0].k || v != p[0].v || !there) {
		t.Fatalf("Least: %d, %d, %v of %v", k, v, there, p)
	}
	for k := low; k <= high; k++ {
		at, want := p.place(k)
		v, there := g.Get(k)
		if there != want || want && v != p[at].v || !want && v != 0 {
			t.Fatalf("Get(%d): %d, %v of %v", k, v, there, p)
		}
		if got := walked(g, k); !slices.Equal(got, p.from(k)) {
			t.Fatalf("Walk(%d): %v, want %v", k, got, p.from(k))
		}
	}
}

// balanced tells whether Depth is within what P6.2 promises, and whether the tree is what keeps it there.
func balanced[K, V any](t *testing.T, g *Grove[K, V]) {
	t.Helper()
	within(t, g)
	if deep, many := levels(t, g.root); g.Depth() != deep || g.Len() != many {
		t.Fatalf("Depth %d, Len %d of a tree of %d, %d", g.Depth(), g.Len(), deep, many)
	}
}

// within tells whether Depth is within what P6.2 promises.
func within[K, V any](t *testing.T, g *Grove[K, V]) {
	t.Helper()
	most := 2 + 4*bits.Len(uint(g.Len()))
	if g.Len() == 0 {
		most = 0
	}
	if got := g.Depth(); got > most || got < bits.Len(uint(g.Len())) {
		t.Fatalf("Depth of %d: %d", g.Len(), got)
	}
}

// levels counts the levels of a tree and what is in it, and tells whether one side of a node has more than one level more than the other.
func levels[K, V any](t *testing.T, x *node[K, V]) (deep, many int) {
	t.Helper()
	if x == nil {
		return 0, 0
	}
	low, few := levels(t, x.to[left])
	high, more := levels(t, x.to[right])
	if low > high+1 || high > low+1 {
		t.Fatalf("a node of %d has %d and %d levels below it", few+1+more, low, high)
	}
	return 1 + max(low, high), few + 1 + more
}

// dice answers numbers that look like any, the same each time.
func dice() func(most int) int {
	state := uint64(7)
	return func(most int) int {
		state = state*6364136223846793005 + 1442695040888963407
		return int(state>>33) % most
	}
}

// orders shows all orders of the numbers from 0 to n - 1.
func orders(n int, see func(l []int)) {
	var l []int
	var more func()
	more = func() {
		if len(l) == n {
			see(l)
			return
		}
		for k := range n {
			if slices.Contains(l, k) {
				continue
			}
			l = append(l, k)
			more()
			l = l[:len(l)-1]
		}
	}
	more()
}

func TestP6_1TheExample(t *testing.T) {
	g := New[int, string](cmp.Compare[int])
	for _, k := range []int{3, 1, 2} {
		if g.Put(k, strconv.Itoa(k)) {
			t.Errorf("Put(%d): true", k)
		}
	}
	if got, want := walked(g, 2), []pair[int, string]{{2, "2"}, {3, "3"}}; !slices.Equal(got, want) {
		t.Errorf("Walk(2): %v, want %v", got, want)
	}
}

func TestP6_1OfNothing(t *testing.T) {
	g := New[int, int](cmp.Compare[int])
	same(t, g, nil, -1, 1)
	if v, there := g.Take(0); v != 0 || there {
		t.Errorf("Take: %d, %v", v, there)
	}
	g.Put(1, 10)
	g.Take(1)
	same(t, g, nil, 0, 2)
	if v, there := g.Take(1); v != 0 || there {
		t.Errorf("Take again: %d, %v", v, there)
	}
	if g.Put(1, 11) {
		t.Error("Put of what was taken: true")
	}
	same(t, g, plain{{1, 11}}, 0, 2)
}

func TestP6_1Put(t *testing.T) {
	g := New[int, int](cmp.Compare[int])
	for _, x := range []struct {
		k, v  int
		there bool
		least int
		many  int
	}{
		{5, 50, false, 50, 1},
		{5, 51, true, 51, 1},
		{7, 70, false, 51, 2},
		{3, 30, false, 30, 3},
		{5, 0, true, 30, 3},
		{3, 30, true, 30, 3}, // the same again
		{3, 31, true, 31, 3},
		{math.MinInt, 1, false, 1, 4},
		{math.MaxInt, 2, false, 1, 5},
		{math.MaxInt, 3, true, 1, 5},
		{0, 4, false, 1, 6},
	} {
		if got := g.Put(x.k, x.v); got != x.there {
			t.Errorf("Put(%d, %d): %v", x.k, x.v, got)
		}
		if v, there := g.Get(x.k); v != x.v || !there {
			t.Errorf("Get(%d): %d, %v, want %d", x.k, v, there, x.v)
		}
		if _, v, _ := g.Least(); v != x.least || g.Len() != x.many {
			t.Errorf("behind Put(%d, %d): Least %d, Len %d, want %d, %d", x.k, x.v, v, g.Len(), x.least, x.many)
		}
	}
	want := []pair[int, int]{{math.MinInt, 1}, {0, 4}, {3, 31}, {5, 0}, {7, 70}, {math.MaxInt, 3}}
	if got := walked(g, math.MinInt); !slices.Equal(got, want) {
		t.Errorf("Walk: %v, want %v", got, want)
	}
}

func TestP6_1KeysThatAreAlike(t *testing.T) {
	g := New[string, int](func(a, b string) int { return strings.Compare(strings.ToLower(a), strings.ToLower(b)) })
	g.Put("b", 1)
	g.Put("A", 2)
	if !g.Put("B", 3) || g.Len() != 2 {
		t.Errorf("Put of one that is alike: %d in all", g.Len())
	}
	if got, want := walked(g, "a"), []pair[string, int]{{"A", 2}, {"B", 3}}; !slices.Equal(got, want) { // what was put is in place of the old, its key, too
		t.Errorf("Walk: %v, want %v", got, want)
	}
	if v, there := g.Get("b"); v != 3 || !there {
		t.Errorf("Get: %d, %v", v, there)
	}
	if v, there := g.Take("a"); v != 2 || !there {
		t.Errorf("Take: %d, %v", v, there)
	}
	if k, v, there := g.Least(); k != "B" || v != 3 || !there {
		t.Errorf("Least: %q, %d, %v", k, v, there)
	}
	one := New[int, int](func(a, b int) int { return 0 })
	for i := range 9 {
		if got := one.Put(i, i); got != (i > 0) || one.Len() != 1 || one.Depth() != 1 {
			t.Errorf("Put(%d) where all are alike: %v, %d in all", i, got, one.Len())
		}
	}
	if v, there := one.Take(77); v != 8 || !there || one.Len() != 0 {
		t.Errorf("Take where all are alike: %d, %v", v, there)
	}
}

func TestP6_1OfWhateverOrder(t *testing.T) {
	down := New[int, int](func(a, b int) int { return cmp.Compare(b, a) })
	for k := range 5 {
		down.Put(k, k)
	}
	if got, want := walked(down, 2), []pair[int, int]{{2, 2}, {1, 1}, {0, 0}}; !slices.Equal(got, want) {
		t.Errorf("Walk of a falling order: %v, want %v", got, want)
	}
	if k, _, _ := down.Least(); k != 4 {
		t.Errorf("Least of a falling order: %d", k)
	}
	far := New[int, int](func(a, b int) int { // however far from 0, and with no number against it
		switch {
		case a < b:
			return math.MinInt
		case a > b:
			return math.MaxInt
		}
		return 0
	})
	var p plain
	for i := range 50 {
		k := i * 7 % 50
		far.Put(k, i)
		p.put(k, i)
	}
	same(t, far, p, -1, 50)
	parts := New[float64, int](cmp.Compare[float64])
	for i, k := range []float64{math.Inf(1), 0, math.NaN(), -1, math.NaN()} { // what is no number is alike, and less than all
		if got := parts.Put(k, i); got != (i == 4) {
			t.Errorf("Put(%v): %v", k, got)
		}
	}
	if k, v, there := parts.Least(); !math.IsNaN(k) || v != 4 || !there || parts.Len() != 4 {
		t.Errorf("Least: %v, %d, %v", k, v, there)
	}
}

// place is a key of several parts.
type place struct {
	town string
	n    int
}

func TestP6_1OfWhateverKeysAndValues(t *testing.T) {
	g := New[place, []api.Record](func(a, b place) int {
		return cmp.Or(cmp.Compare(a.town, b.town), cmp.Compare(a.n, b.n))
	})
	g.Put(place{"b", 1}, []api.Record{{Text: "x"}})
	g.Put(place{"a", 2}, nil)
	g.Put(place{"a", 1}, []api.Record{{Text: "y"}, {Text: "z"}})
	var towns string
	g.Walk(place{"a", 2}, func(k place, v []api.Record) bool {
		towns += k.town + strconv.Itoa(len(v))
		return true
	})
	if towns != "a0b1" {
		t.Errorf("Walk of structs: %s", towns)
	}
	lists := New[[]int, func() int](slices.Compare[[]int]) // keys that no map has
	lists.Put([]int{2}, func() int { return 7 })
	lists.Put(nil, nil)
	if v, there := lists.Get([]int{2}); !there || v() != 7 {
		t.Error("Get of a list")
	}
	if v, there := lists.Get([]int{}); v != nil || !there { // a value that is nil is there, too
		t.Error("Get of an empty list")
	}
	var none New0
	nothings := New[New0, *int](func(a, b New0) int { return 0 })
	if nothings.Put(none, nil) || nothings.Len() != 1 {
		t.Error("Put of a nothing")
	}
	errs := New[error, any](func(a, b error) int { return strings.Compare(a.Error(), b.Error()) })
	errs.Put(api.ErrFull, 1)
	errs.Put(errors.New("epoch"), "two")
	if v, there := errs.Get(api.ErrNone); v != nil || there {
		t.Error("Get of another error")
	}
	if v, there := errs.Take(errors.New("full")); v != 1 || !there {
		t.Error("Take of an error")
	}
}

// New0 is a key that tells nothing.
type New0 struct{}

func TestP6_1Take(t *testing.T) {
	g := New[int, int](cmp.Compare[int])
	for k := range 10 {
		g.Put(k, k*k)
	}
	for _, x := range []struct {
		k, v  int
		there bool
	}{
		{4, 16, true}, {4, 0, false}, {0, 0, true}, {0, 0, false}, {9, 81, true}, {10, 0, false}, {-1, 0, false}, {3, 9, true}, {7, 49, true},
	} {
		many := g.Len()
		v, there := g.Take(x.k)
		if v != x.v || there != x.there {
			t.Errorf("Take(%d): %d, %v", x.k, v, there)
		}
		if there {
			many--
		}
		if g.Len() != many {
			t.Errorf("behind Take(%d): Len %d, want %d", x.k, g.Len(), many)
		}
		if v, there := g.Get(x.k); v != 0 || there {
			t.Errorf("Get(%d) behind Take: %d, %v", x.k, v, there)
		}
	}
	same(t, g, plain{{1, 1}, {2, 4}, {5, 25}, {6, 36}, {8, 64}}, -1, 10)
}

func TestP6_1Walk(t *testing.T) {
	g := New[int, int](cmp.Compare[int])
	for _, k := range []int{8, 2, 6, 4} {
		g.Put(k, k*10)
	}
	for _, x := range []struct {
		from int
		want []int
	}{
		{math.MinInt, []int{2, 4, 6, 8}},
		{1, []int{2, 4, 6, 8}},
		{2, []int{2, 4, 6, 8}},
		{3, []int{4, 6, 8}},
		{6, []int{6, 8}},
		{7, []int{8}},
		{8, []int{8}},
		{9, nil},
		{math.MaxInt, nil},
	} {
		for most := range len(x.want) + 2 { // as long as see says true, and not once more
			var got []int
			g.Walk(x.from, func(k, v int) bool {
				if v != k*10 {
					t.Errorf("Walk(%d): %d with %d", x.from, k, v)
				}
				got = append(got, k)
				return len(got) < most
			})
			if want := x.want[:min(len(x.want), max(most, 1))]; !slices.Equal(got, want) {
				t.Errorf("Walk(%d), %d of them: %v, want %v", x.from, most, got, want)
			}
		}
	}
}

func TestP6_1WalkEndsAnywhere(t *testing.T) {
	const many = 70
	g := New[int, int](cmp.Compare[int])
	for i := range many {
		g.Put(i*31%many, i)
	}
	for from := range many {
		for last := from; last < many; last++ {
			at := from
			g.Walk(from, func(k, v int) bool {
				if k != at {
					t.Fatalf("Walk(%d): %d, want %d", from, k, at)
				}
				at++
				return k < last
			})
			if at != last+1 {
				t.Fatalf("Walk(%d) to %d: up to %d", from, last, at-1)
			}
		}
	}
}

func TestP6_1AllOrdersOfFew(t *testing.T) {
	const few = 5
	orders(few, func(puts []int) {
		orders(few, func(takes []int) {
			g := New[int, int](cmp.Compare[int])
			var p plain
			for i, k := range puts {
				if g.Put(k, i) != p.put(k, i) {
					t.Fatalf("Put(%d) of %v", k, puts)
				}
			}
			for _, k := range takes {
				v, there := g.Take(k)
				if want, is := p.take(k); v != want || there != is {
					t.Fatalf("Take(%d) of %v, %v: %d, %v", k, puts, takes, v, there)
				}
				same(t, g, p, -1, few)
			}
		})
	})
}

func TestP6_1OfSevenTakeEach(t *testing.T) {
	orders(7, func(puts []int) {
		g := New[int, int](cmp.Compare[int])
		var p plain
		for i, k := range puts {
			g.Put(k, i)
			p.put(k, i)
		}
		k := puts[3] // orders has each key at each place
		v, there := g.Take(k)
		if want, is := p.take(k); v != want || there != is {
			t.Fatalf("Take(%d) of %v: %d, %v", k, puts, v, there)
		}
		balanced(t, g)
		if got := walked(g, 0); !slices.Equal(got, p) {
			t.Fatalf("Walk of %v without %d: %v", puts, k, got)
		}
	})
}

func TestP6_1AsAPlainList(t *testing.T) {
	roll := dice()
	for _, keys := range []int{1, 2, 3, 10, 60} {
		g := New[int, int](cmp.Compare[int])
		var p plain
		for i := range 3000 {
			k := roll(keys)
			if roll(100) < 20+60*(i/500%2) { // by turns it grows, and shrinks
				if got, want := g.Put(k, i), p.put(k, i); got != want {
					t.Fatalf("Put(%d): %v, want %v", k, got, want)
				}
			} else {
				v, there := g.Take(k)
				if want, is := p.take(k); v != want || there != is {
					t.Fatalf("Take(%d): %d, %v, want %d, %v", k, v, there, want, is)
				}
			}
			same(t, g, p, -1, keys)
		}
	}
}

func TestP6_1TwoGrovesHaveNothingInCommon(t *testing.T) {
	a, b := New[int, int](cmp.Compare[int]), New[int, int](cmp.Compare[int])
	a.Put(1, 10)
	if b.Len() != 0 || b.Put(1, 20) {
		t.Error("one grove has what was put into another")
	}
	b.Take(1)
	same(t, a, plain{{1, 10}}, 0, 2)
	same(t, b, nil, 0, 2)
}

func TestP6_1NewOfNil(t *testing.T) {
	for name, g := range map[string]*Grove[string, int]{"New(nil)": New[string, int](nil), "nil": nil, "a zero value": {}} {
		if name == "New(nil)" && g == nil {
			t.Error("New(nil): nil")
		}
		for range 3 {
			if g.Put("a", 1) {
				t.Errorf("%s: Put: true", name)
			}
		}
		if v, there := g.Get("a"); v != 0 || there {
			t.Errorf("%s: Get: %d, %v", name, v, there)
		}
		if v, there := g.Take("a"); v != 0 || there {
			t.Errorf("%s: Take: %d, %v", name, v, there)
		}
		if k, v, there := g.Least(); k != "" || v != 0 || there {
			t.Errorf("%s: Least: %q, %d, %v", name, k, v, there)
		}
		if g.Len() != 0 || g.Depth() != 0 {
			t.Errorf("%s: Len %d, Depth %d", name, g.Len(), g.Depth())
		}
		if l := walked(g, ""); l != nil {
			t.Errorf("%s: Walk: %v", name, l)
		}
		g.Walk("", nil)
	}
}

func TestR7WalkOfNoFunction(t *testing.T) {
	g := New[int, int](cmp.Compare[int])
	g.Walk(0, nil)
	g.Put(1, 10)
	g.Walk(0, nil)
	same(t, g, plain{{1, 10}}, 0, 2)
}

func TestR1CompareThatPanics(t *testing.T) {
	for _, what := range []any{nil, "no", 7, errors.New("no"), api.ErrArg} {
		most := -1 // how often compare answers; below 0: always
		g := New[int, int](func(a, b int) int {
			if most == 0 {
				panic(what)
			}
			most--
			return cmp.Compare(a, b)
		})
		var p plain
		for i := range 40 {
			k := i * 7 % 40
			g.Put(k, i)
			p.put(k, i)
		}
		for k := -1; k <= 40; k++ {
			for calls := range 2 {
				if k == g.root.k { // one call is too few for all but this one
					continue
				}
				most = calls
				if g.Put(k, 99) {
					t.Errorf("Put(%d), where compare panics with %v: true", k, what)
				}
				most = calls
				if v, there := g.Take(k); v != 0 || there {
					t.Errorf("Take(%d), where compare panics with %v: %d, %v", k, what, v, there)
				}
				most = calls
				if v, there := g.Get(k); v != 0 || there {
					t.Errorf("Get(%d), where compare panics with %v: %d, %v", k, what, v, there)
				}
				most = calls
				g.Walk(k, func(k, v int) bool { return true })
			}
		}
		most = -1
		same(t, g, p, -1, 40) // a call that is refused changes nothing
	}
}

func TestR1CompareThatIsNoOrder(t *testing.T) {
	roll := dice()
	for name, compare := range map[string]func(a, b int) int{
		"always less": func(a, b int) int { return -1 },
		"always more": func(a, b int) int { return 1 },
		"any":         func(a, b int) int { return roll(3) - 1 },
		"wraps":       func(a, b int) int { return int(int8(a - b)) },
	} {
		g := New[int, int](compare)
		many := 0
		for i := range 2000 {
			if i%3 < 2 && !g.Put(i, i) {
				many++
			}
			if i%3 == 2 {
				if _, there := g.Take(i - 1); there {
					many--
				}
			}
			g.Get(i)
			seen := 0
			if i%100 == 0 {
				g.Walk(i, func(k, v int) bool { seen++; return true })
			}
			if g.Len() != many || seen > many {
				t.Fatalf("%s: Len %d, want %d; Walk showed %d", name, g.Len(), many, seen)
			}
			balanced(t, g)
		}
	}
}

func TestR1SeeThatPanics(t *testing.T) {
	g := New[int, int](cmp.Compare[int])
	var p plain
	for k := range 20 {
		g.Put(k, k)
		p.put(k, k)
	}
	for last := range 20 {
		seen := 0
		g.Walk(0, func(k, v int) bool {
			seen++
			if k == last {
				panic("no")
			}
			return true
		})
		if seen != last+1 {
			t.Errorf("Walk, where see panics at %d: %d were shown", last, seen)
		}
	}
	same(t, g, p, -1, 20)
}

func TestR1SeeThatChangesTheGrove(t *testing.T) {
	full := func() (*Grove[int, int], []pair[int, int]) {
		g := New[int, int](cmp.Compare[int])
		for i := range 30 {
			g.Put(i*7%30, i)
		}
		return g, walked(g, 0)
	}
	g, was := full()
	at := 0
	g.Walk(0, func(k, v int) bool { // without an end, if what is put were shown
		if (pair[int, int]{k, v}) != was[at] {
			t.Errorf("Walk, where see puts: %d, %d, want %v", k, v, was[at])
		}
		at++
		return !g.Put(k+1000, 0) && g.Put(29-k, -1)
	})
	if at != len(was) || g.Len() != 2*len(was) {
		t.Errorf("Walk, where see puts: %d shown, then %d in all", at, g.Len())
	}
	balanced(t, g)
	g, was = full()
	at = 0
	g.Walk(0, func(k, v int) bool {
		at++
		g.Take(29 - k)
		g.Take(k)
		g.Walk(k, func(k, v int) bool { g.Take(k); return k%3 > 0 })
		balanced(t, g)
		return true
	})
	if at != len(was) || g.Len() != 0 {
		t.Errorf("Walk, where see takes: %d shown, then %d in all", at, g.Len())
	}
}

func TestR1CompareThatChangesTheGrove(t *testing.T) {
	var g *Grove[int, int]
	inside, k := false, 0
	g = New[int, int](func(a, b int) int {
		if !inside {
			inside = true
			k++
			g.Put(1000+k, k)
			g.Take(a)
			g.Take(b)
			inside = false
		}
		return cmp.Compare(a, b)
	})
	for i := range 300 {
		g.Put(i*7%50, i)
		g.Take(i * 11 % 50)
		g.Get(i)
		balanced(t, g)
		inside = true
		if got := len(walked(g, 0)); got != g.Len() {
			t.Fatalf("Len: %d, but Walk shows %d", g.Len(), got)
		}
		inside = false
	}
}

func TestP6_2DepthOfFew(t *testing.T) {
	g := New[int, int](cmp.Compare[int])
	if g.Depth() != 0 {
		t.Errorf("Depth of none: %d", g.Depth())
	}
	g.Put(1, 1)
	if g.Depth() != 1 {
		t.Errorf("Depth of one: %d", g.Depth())
	}
	g.Put(2, 2)
	if g.Depth() != 2 {
		t.Errorf("Depth of two: %d", g.Depth())
	}
	g.Take(1)
	g.Take(2)
	if g.Depth() != 0 {
		t.Errorf("Depth of none again: %d", g.Depth())
	}
}

func TestP6_2DepthOfMuch(t *testing.T) {
	const many = 20000
	roll := dice()
	dealt := make([]int, many)
	for i := range dealt {
		dealt[i] = i
	}
	for i := range dealt {
		j := i + roll(many-i)
		dealt[i], dealt[j] = dealt[j], dealt[i]
	}
	ways := map[string]func(i int) int{
		"rising":           func(i int) int { return i },
		"falling":          func(i int) int { return many - 1 - i },
		"from the ends":    func(i int) int { return i/2*(1-i%2) + (many-1-i/2)*(i%2) },
		"from the middle":  func(i int) int { return many/2 + i/2*(1-i%2) - (i+1)/2*(i%2) },
		"by turns":         func(i int) int { return i * 7919 % many },
		"as the dice fell": func(i int) int { return dealt[i] },
	}
	for put, key := range ways {
		for take, gone := range ways {
			g := New[int, int](cmp.Compare[int])
			for i := range many {
				g.Put(key(i), i)
				within(t, g)
			}
			balanced(t, g)
			for i := range many - 5 {
				if v, there := g.Take(gone(i)); !there || key(v) != gone(i) {
					t.Fatalf("put %s, taken %s: Take(%d): %d, %v", put, take, gone(i), v, there)
				}
				within(t, g)
			}
			balanced(t, g)
			var want []int
			for i := many - 5; i < many; i++ {
				want = append(want, gone(i))
			}
			slices.Sort(want)
			for i, x := range walked(g, 0) {
				if x.k != want[i] {
					t.Fatalf("put %s, taken %s: %d is left, want %d", put, take, x.k, want[i])
				}
			}
		}
	}
}

func TestP6_2CallsAsFewAsLevels(t *testing.T) {
	const many = 1 << 14
	calls := 0
	g := New[int, int](func(a, b int) int {
		calls++
		return cmp.Compare(a, b)
	})
	for k := range many {
		g.Put(k, k)
	}
	most := 2 + 4*bits.Len(many)
	for k := -1; k <= many; k += 5 {
		for name, do := range map[string]func(){
			"Get":  func() { g.Get(k) },
			"Put":  func() { g.Put(k, k) },
			"Take": func() { g.Take(k) },
			"Walk": func() { g.Walk(k, func(k, v int) bool { return false }) },
		} {
			calls = 0
			do()
			if calls > most {
				t.Fatalf("%s(%d) compares %d times, want at most %d", name, k, calls, most)
			}
		}
	}
}
