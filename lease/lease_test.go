package lease

import (
	"cmp"
	"math"
	"math/big"
	"slices"
	"testing"

	"gazetteer/api"
)

// near are numbers about each bound.
func near() []int {
	return []int{
		math.MinInt, math.MinInt + 1, math.MinInt32, -api.MaxTick - 1, -api.MaxTick, -2, -1, 0, 1, 2, 3, 1<<28 - 1, 1 << 28, math.MaxInt32, 1 << 32,
		api.MaxTick - 1, api.MaxTick, api.MaxTick + 1, 2*api.MaxTick - 1, 2 * api.MaxTick, 2*api.MaxTick + 1, 3*api.MaxTick - 1, 3 * api.MaxTick, 3*api.MaxTick + 1,
		math.MaxInt - 1, math.MaxInt,
	}
}

// bounds are numbers at the bounds of a lease's fields.
func bounds() []int {
	return []int{math.MinInt, -1, 0, 1, 2, api.MaxTick - 1, api.MaxTick, api.MaxTick + 1, math.MaxInt}
}

// each shows leases of all those numbers.
func each(l []int, show func(Lease)) {
	for _, epoch := range l {
		for _, since := range l {
			for _, long := range l {
				show(Lease{epoch, since, long})
			}
		}
	}
}

// Each promise written out plainly, by numbers of any size.

func sum(l ...int) *big.Int {
	s := new(big.Int)
	for _, n := range l {
		s.Add(s, big.NewInt(int64(n)))
	}
	return s
}

func below(a, b *big.Int) bool { return a.Cmp(b) < 0 }

func plainMay(l Lease) bool {
	if l.Epoch < 1 || l.Since < 0 || l.For < 1 {
		return false
	}
	return !(l.Since > 1<<40) && !(l.For > 1<<40)
}

func plainHolds(l Lease, now int) bool {
	if !plainMay(l) || now < l.Since {
		return false
	}
	return below(sum(now), sum(l.Since, l.For))
}

func plainSafe(l Lease, now, skew int) bool {
	if skew < 0 {
		skew = 0
	}
	if skew > 1<<40 {
		skew = 1 << 40
	}
	return !plainMay(l) || !below(sum(now), sum(l.Since, l.For, skew))
}

// plainLater takes away those that may not be, and sorts what is left.
func plainLater(a, b Lease) Lease {
	var l []Lease
	for _, x := range []Lease{a, b} {
		if plainMay(x) {
			l = append(l, x)
		}
	}
	if len(l) == 0 {
		return Lease{}
	}
	slices.SortStableFunc(l, func(x, y Lease) int {
		if x.Epoch != y.Epoch {
			return cmp.Compare(y.Epoch, x.Epoch)
		}
		return sum(y.Since, y.For).Cmp(sum(x.Since, x.For))
	})
	return l[0]
}

// dice answers numbers that look like any, the same each time.
func dice() func(most int) int {
	state := uint64(13)
	return func(most int) int {
		state = state*6364136223846793005 + 1442695040888963407
		return int(state>>33) % most
	}
}

func TestP13_1TheExample(t *testing.T) {
	l := Lease{Epoch: 1, Since: 5, For: 3}
	if !Holds(l, 7) || Holds(l, 8) {
		t.Errorf("Holds 7: %v, Holds 8: %v", Holds(l, 7), Holds(l, 8))
	}
}

func TestP13_1May(t *testing.T) {
	tests := []struct {
		l    Lease
		want bool
	}{
		{Lease{}, false},
		{Lease{1, 0, 1}, true},
		{Lease{0, 0, 1}, false},
		{Lease{-1, 0, 1}, false},
		{Lease{math.MinInt, 0, 1}, false},
		{Lease{1, -1, 1}, false},
		{Lease{1, math.MinInt, 1}, false},
		{Lease{1, 0, 0}, false},
		{Lease{1, 0, -1}, false},
		{Lease{1, 0, math.MinInt}, false},
		{Lease{2, 1, 2}, true},
		{Lease{1 << 28, 0, 1}, true},
		{Lease{math.MaxInt, 0, 1}, true},
		{Lease{1, api.MaxTick, 1}, true},
		{Lease{1, api.MaxTick + 1, 1}, false},
		{Lease{1, math.MaxInt, 1}, false},
		{Lease{1, 0, api.MaxTick}, true},
		{Lease{1, 0, api.MaxTick + 1}, false},
		{Lease{1, 0, math.MaxInt}, false},
		{Lease{math.MaxInt, api.MaxTick, api.MaxTick}, true},
		{Lease{1, 5, -3}, false},
		{Lease{1, math.MaxInt, math.MinInt}, false},
	}
	for _, x := range tests {
		if got := May(x.l); got != x.want {
			t.Errorf("May(%v): %v, want %v", x.l, got, x.want)
		}
	}
	each(near(), func(l Lease) {
		if got, want := May(l), plainMay(l); got != want {
			t.Errorf("May(%v): %v, want %v", l, got, want)
		}
	})
}

func TestP13_1HoldsAndLeft(t *testing.T) {
	const most = api.MaxTick
	tests := []struct {
		l         Lease
		now, left int
	}{
		{Lease{1, 5, 3}, 4, 0},
		{Lease{1, 5, 3}, 5, 3},
		{Lease{1, 5, 3}, 6, 2},
		{Lease{1, 5, 3}, 7, 1},
		{Lease{1, 5, 3}, 8, 0},
		{Lease{1, 5, 3}, 9, 0},
		{Lease{1, 5, 3}, math.MinInt, 0},
		{Lease{1, 5, 3}, math.MaxInt, 0},
		{Lease{1, 0, 1}, -1, 0},
		{Lease{1, 0, 1}, 0, 1},
		{Lease{1, 0, 1}, 1, 0},
		{Lease{math.MaxInt, most, most}, most - 1, 0},
		{Lease{math.MaxInt, most, most}, most, most}, // a tick above MaxTick is one too
		{Lease{math.MaxInt, most, most}, most + 1, most - 1},
		{Lease{math.MaxInt, most, most}, 2*most - 1, 1},
		{Lease{math.MaxInt, most, most}, 2 * most, 0},
		{Lease{}, 0, 0},
		{Lease{0, 5, 3}, 5, 0},
		{Lease{-1, 5, 3}, 6, 0},
		{Lease{1, -1, 3}, 0, 0},
		{Lease{1, 5, 0}, 5, 0},
		{Lease{1, 5, -3}, 4, 0},
		{Lease{1, most + 1, 3}, most + 1, 0},
		{Lease{1, 5, most + 1}, 5, 0},
		{Lease{1, math.MaxInt, math.MaxInt}, math.MaxInt, 0},
		{Lease{1, math.MinInt, math.MinInt}, -1, 0},
	}
	for _, x := range tests {
		if got := Holds(x.l, x.now); got != (x.left > 0) {
			t.Errorf("Holds(%v, %d): %v", x.l, x.now, got)
		}
		if got := Left(x.l, x.now); got != x.left {
			t.Errorf("Left(%v, %d): %d, want %d", x.l, x.now, got, x.left)
		}
	}
}

func TestP13_1HoldsAndLeftOfAnyNumbers(t *testing.T) {
	each(bounds(), func(l Lease) {
		for _, now := range near() {
			if got, want := Holds(l, now), plainHolds(l, now); got != want {
				t.Errorf("Holds(%v, %d): %v, want %v", l, now, got, want)
			}
			want := 0
			if plainHolds(l, now) {
				want = int(new(big.Int).Sub(sum(l.Since, l.For), sum(now)).Int64())
			}
			if got := Left(l, now); got != want {
				t.Errorf("Left(%v, %d): %d, want %d", l, now, got, want)
			}
		}
	})
}

func TestP13_1LeftIsHowManyTicksHold(t *testing.T) {
	for since := range 6 {
		for long := range 6 {
			l := Lease{1, since, long}
			for now := -3; now < 15; now++ {
				want := 0
				for later := now; Holds(l, later); later++ {
					want++
				}
				if got := Left(l, now); got != want {
					t.Errorf("Left(%v, %d): %d, want %d", l, now, got, want)
				}
			}
		}
	}
}

func TestP13_1Later(t *testing.T) {
	const most = api.MaxTick
	tests := []struct {
		name    string
		a, b    Lease
		want    Lease
		swapped Lease // what Later(b, a) is
	}{
		{"none may", Lease{0, 1, 1}, Lease{1, -1, 1}, Lease{}, Lease{}},
		{"both zero", Lease{}, Lease{}, Lease{}, Lease{}},
		{"just one may", Lease{1, 0, 1}, Lease{}, Lease{1, 0, 1}, Lease{1, 0, 1}},
		{"the one that may not has the greater Epoch", Lease{1, 0, 1}, Lease{9, 0, 0}, Lease{1, 0, 1}, Lease{1, 0, 1}},
		{"the one that may not ends later", Lease{1, 0, 1}, Lease{1, 0, most + 1}, Lease{1, 0, 1}, Lease{1, 0, 1}},
		{"the greater Epoch", Lease{2, 0, 1}, Lease{1, 9, 9}, Lease{2, 0, 1}, Lease{2, 0, 1}},
		{"the greatest Epoch", Lease{math.MaxInt, 0, 1}, Lease{math.MaxInt - 1, most, most}, Lease{math.MaxInt, 0, 1}, Lease{math.MaxInt, 0, 1}},
		{"ends later, begins later", Lease{3, 5, 5}, Lease{3, 6, 5}, Lease{3, 6, 5}, Lease{3, 6, 5}},
		{"ends later, begins earlier", Lease{3, 0, 12}, Lease{3, 6, 5}, Lease{3, 0, 12}, Lease{3, 0, 12}},
		{"ends later, is shorter", Lease{3, 9, 1}, Lease{3, 0, 9}, Lease{3, 9, 1}, Lease{3, 9, 1}},
		{"ends later by one tick", Lease{3, most, most}, Lease{3, most - 1, most}, Lease{3, most, most}, Lease{3, most, most}},
		{"ends alike", Lease{3, 4, 6}, Lease{3, 6, 4}, Lease{3, 4, 6}, Lease{3, 6, 4}},
		{"ends alike, far", Lease{3, most - 1, most}, Lease{3, most, most - 1}, Lease{3, most - 1, most}, Lease{3, most, most - 1}},
		{"alike", Lease{3, 4, 6}, Lease{3, 4, 6}, Lease{3, 4, 6}, Lease{3, 4, 6}},
	}
	for _, x := range tests {
		if got := Later(x.a, x.b); got != x.want {
			t.Errorf("%s: Later(%v, %v): %v, want %v", x.name, x.a, x.b, got, x.want)
		}
		if got := Later(x.b, x.a); got != x.swapped {
			t.Errorf("%s: Later(%v, %v): %v, want %v", x.name, x.b, x.a, got, x.swapped)
		}
	}
}

func TestP13_1LaterOfAnyNumbers(t *testing.T) {
	for _, l := range [][]int{{0, 1, 2, 3}, {-1, 1, api.MaxTick, api.MaxTick + 1}, {0, 1, math.MaxInt, math.MinInt}} {
		each(l, func(a Lease) {
			each(l, func(b Lease) {
				if got, want := Later(a, b), plainLater(a, b); got != want {
					t.Errorf("Later(%v, %v): %v, want %v", a, b, got, want)
				}
			})
		})
	}
}

func TestP13_1Safe(t *testing.T) {
	const most = api.MaxTick
	tests := []struct {
		l         Lease
		skew, now int // now: the first tick at which it is safe
	}{
		{Lease{1, 5, 3}, 0, 8},
		{Lease{1, 5, 3}, 1, 9},
		{Lease{1, 5, 3}, 2, 10},
		{Lease{1, 5, 3}, -1, 8},
		{Lease{1, 5, 3}, -8, 8},
		{Lease{1, 5, 3}, math.MinInt, 8},
		{Lease{1, 5, 3}, most - 1, most + 7},
		{Lease{1, 5, 3}, most, most + 8},
		{Lease{1, 5, 3}, most + 1, most + 8},
		{Lease{1, 5, 3}, math.MaxInt, most + 8},
		{Lease{1, 0, 1}, 0, 1},
		{Lease{math.MaxInt, most, most}, 0, 2 * most},
		{Lease{math.MaxInt, most, most}, most, 3 * most},
		{Lease{math.MaxInt, most, most}, math.MaxInt, 3 * most},
	}
	for _, x := range tests {
		for _, now := range []int{math.MinInt, -1, 0, x.l.Since - 1, x.l.Since, x.l.Since + x.l.For - 1, x.now - 1} {
			if Safe(x.l, now, x.skew) {
				t.Errorf("Safe(%v, %d, %d): true", x.l, now, x.skew)
			}
		}
		for _, now := range []int{x.now, x.now + 1, math.MaxInt} {
			if !Safe(x.l, now, x.skew) {
				t.Errorf("Safe(%v, %d, %d): false", x.l, now, x.skew)
			}
		}
	}
	for _, l := range []Lease{{}, {0, 5, 3}, {1, -1, 3}, {1, 5, 0}, {1, most + 1, 1}, {1, 5, most + 1}, {1, math.MaxInt, math.MaxInt}} {
		for _, now := range near() { // one that may not be binds nobody
			if !Safe(l, now, now) || !Safe(l, now, 0) || !Safe(l, now, math.MaxInt) {
				t.Errorf("Safe(%v, %d): false", l, now)
			}
		}
	}
}

func TestP13_1SafeOfAnyNumbers(t *testing.T) {
	each(bounds(), func(l Lease) {
		for _, now := range near() {
			for _, skew := range near() {
				if got, want := Safe(l, now, skew), plainSafe(l, now, skew); got != want {
					t.Errorf("Safe(%v, %d, %d): %v, want %v", l, now, skew, got, want)
				}
			}
		}
	})
}

func TestP13_1AgainstThePromise(t *testing.T) {
	roll := dice()
	number := func() int {
		if roll(4) == 0 {
			return near()[roll(len(near()))] + roll(3) - 1 // of the greatest, one more is the least
		}
		return roll(12) - 1
	}
	one := func() Lease { return Lease{number(), number(), number()} }
	for range 200000 {
		a, b, now, skew := one(), one(), number(), number()
		if May(a) != plainMay(a) {
			t.Fatalf("May(%v): %v", a, May(a))
		}
		if Holds(a, now) != plainHolds(a, now) || (Left(a, now) > 0) != plainHolds(a, now) {
			t.Fatalf("Holds(%v, %d): %v, Left: %d", a, now, Holds(a, now), Left(a, now))
		}
		if Safe(a, now, skew) != plainSafe(a, now, skew) {
			t.Fatalf("Safe(%v, %d, %d): %v", a, now, skew, Safe(a, now, skew))
		}
		if Later(a, b) != plainLater(a, b) {
			t.Fatalf("Later(%v, %v): %v", a, b, Later(a, b))
		}
		if Holds(a, now) && Safe(a, now, skew) {
			t.Fatalf("%v holds at %d, and is safe", a, now)
		}
	}
}

// pair is a thing of another kind than leases.
type pair struct{ a, b string }

func TestP13_1CompareIsGeneric(t *testing.T) {
	first, second := func(p pair) string { return p.a }, func(p pair) string { return p.b }
	tests := []struct {
		a, b   pair
		things []func(pair) string
		want   int
	}{
		{pair{"a", "b"}, pair{"a", "b"}, []func(pair) string{first, second}, 0},
		{pair{"a", "b"}, pair{"a", "c"}, []func(pair) string{first, second}, -1},
		{pair{"a", "c"}, pair{"a", "b"}, []func(pair) string{first, second}, 1},
		{pair{"b", "a"}, pair{"a", "b"}, []func(pair) string{first, second}, 1},
		{pair{"b", "a"}, pair{"a", "b"}, []func(pair) string{second, first}, -1},
		{pair{"b", "a"}, pair{"a", "a"}, []func(pair) string{second}, 0},
		{pair{"b", "a"}, pair{"a", "b"}, nil, 0},
	}
	for _, x := range tests {
		if got := compare(x.a, x.b, x.things...); got != x.want {
			t.Errorf("compare(%v, %v): %d, want %d", x.a, x.b, got, x.want)
		}
	}
}
