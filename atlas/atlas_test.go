package atlas

import (
	"math"
	"reflect"
	"slices"
	"strings"
	"testing"

	"gazetteer/api"
)

// dice answers numbers that look like any, the same each time.
func dice() func(most int) int {
	state := uint64(14)
	return func(most int) int {
		state = state*6364136223846793005 + 1442695040888963407
		return int(state>>33) % most
	}
}

// Short names for what stands in long rows.

func sh(from, to string, node, epoch int) Shard {
	return Shard{Span: api.Span{From: from, To: to}, Node: node, Epoch: epoch}
}

func at(epoch int, l ...Shard) Atlas { return Atlas{Epoch: epoch, L: l} }

func places(l ...int) []int { return l }

// two and three are atlases of nodes 1 and 2.
func two() Atlas { return at(7, sh("", "m", 1, 3), sh("m", "", 2, 7)) }

func three() Atlas { return at(9, sh("", "b", 1, 9), sh("b", "m", 2, 4), sh("m", "", 1, 1)) }

// cut answers the shards that the keys part all keys into, all of node 1 and epoch 1.
func cut(keys ...string) []Shard {
	ends := slices.Concat([]string{""}, keys, []string{""})
	var l []Shard
	for i := range len(ends) - 1 {
		l = append(l, sh(ends[i], ends[i+1], 1, 1))
	}
	return l
}

// letters answers the first n of them.
func letters(n int) []string { return strings.Split("abcdefghijklmnopqrstuvwxyz"[:n], "") }

// full is an atlas that has as many shards as may be.
func full() Atlas { return at(1, cut(letters(api.MaxRanges-1)...)...) }

// copied answers a with lists of its own.
func copied(a Atlas) Atlas { return Atlas{a.Epoch, slices.Clone(a.L)} }

// answer is what one of the three changes answers.
type answer struct {
	a    Atlas
	gone []int
	e    api.Errno
}

func split(a Atlas, key string) answer {
	b, gone, e := Split(a, key)
	return answer{b, gone, e}
}

func merge(a Atlas, i int) answer {
	b, gone, e := Merge(a, i)
	return answer{b, gone, e}
}

func move(a Atlas, i, node, nodes int) answer {
	b, gone, e := Move(a, i, node, nodes)
	return answer{b, gone, e}
}

// refused answers e alone.
func refused(e api.Errno) answer { return answer{e: e} }

// same tells where an answer is not as it should be.
func same(t *testing.T, what any, got, want answer) {
	t.Helper()
	if !reflect.DeepEqual(got, want) {
		t.Errorf("%v:\n%+v, want\n%+v", what, got, want)
	}
}

// The promises written out plainly.

func has(s api.Span, key string) bool {
	return strings.Compare(s.From, key) <= 0 && (len(s.To) == 0 || strings.Compare(key, s.To) < 0)
}

// near are keys about each bound of the spans, the least first.
func near(l []Shard) []string {
	keys := []string{"", "\x00", "zz", "\xff\xff"}
	for _, s := range l {
		for _, k := range []string{s.Span.From, s.Span.To} {
			keys = append(keys, k, k+"\x00", k+"5")
			if n := len(k); n > 0 {
				keys = append(keys, k[:n-1], k[:n-1]+string([]byte{k[n-1] - 1, 0xff}))
			}
		}
	}
	slices.Sort(keys)
	return slices.Compact(keys)
}

// plainMay asks of the keys about each bound who has them: just one, each behind the ones ahead, and each shard has one.
func plainMay(a Atlas, nodes int) bool {
	if nodes < 1 || nodes > 5 || len(a.L) < 1 || len(a.L) > 12 || a.Epoch < 1 {
		return false
	}
	for _, s := range a.L {
		if s.Node < 1 || s.Node > nodes || s.Epoch < 1 || s.Epoch > a.Epoch {
			return false
		}
	}
	var owners []int
	for _, key := range near(a.L) {
		many := 0
		for i, s := range a.L {
			if has(s.Span, key) {
				owners = append(owners, i)
				many++
			}
		}
		if many != 1 {
			return false
		}
	}
	return slices.IsSorted(owners) && len(slices.Compact(owners)) == len(a.L)
}

// plainOwner asks one shard behind the other.
func plainOwner(a Atlas, key string) (Shard, bool) {
	for _, s := range a.L {
		if has(s.Span, key) {
			return s, true
		}
	}
	return Shard{}, false
}

func plainRefuses(a Atlas, nodes int) bool { return !plainMay(a, nodes) || a.Epoch >= 268435455 }

func plainSplit(a Atlas, key string) answer {
	if plainRefuses(a, 5) {
		return refused(api.ErrArg)
	}
	for _, s := range a.L {
		if s.Span.From == key {
			return refused(api.ErrArg)
		}
	}
	if len(a.L) == 12 {
		return refused(api.ErrFull)
	}
	x := answer{a: Atlas{Epoch: a.Epoch + 1}}
	for i, s := range a.L {
		if !has(s.Span, key) {
			x.a.L = append(x.a.L, s)
			continue
		}
		x.gone = append(x.gone, i)
		x.a.L = append(x.a.L, sh(s.Span.From, key, s.Node, a.Epoch+1), sh(key, s.Span.To, s.Node, a.Epoch+1))
	}
	return x
}

func plainMerge(a Atlas, i int) answer {
	if plainRefuses(a, 5) || i < 0 || i > len(a.L) || i+1 >= len(a.L) {
		return refused(api.ErrArg)
	}
	x := answer{a: Atlas{Epoch: a.Epoch + 1}, gone: []int{i, i + 1}}
	for j, s := range a.L {
		switch j {
		case i:
			x.a.L = append(x.a.L, sh(s.Span.From, a.L[i+1].Span.To, s.Node, a.Epoch+1))
		case i + 1:
		default:
			x.a.L = append(x.a.L, s)
		}
	}
	return x
}

func plainMove(a Atlas, i, node, nodes int) answer {
	if plainRefuses(a, nodes) || i < 0 || i >= len(a.L) || node < 1 || node > nodes || a.L[i].Node == node {
		return refused(api.ErrArg)
	}
	x := answer{a: Atlas{Epoch: a.Epoch + 1, L: slices.Clone(a.L)}, gone: []int{i}}
	x.a.L[i].Node, x.a.L[i].Epoch = node, a.Epoch+1
	return x
}

func TestP14_1May(t *testing.T) {
	tests := []struct {
		name  string
		a     Atlas
		nodes int
		want  bool
	}{
		{"no shard", at(1), 5, false},
		{"a zero one", Atlas{}, 1, false},
		{"one shard", at(1, sh("", "", 1, 1)), 1, true},
		{"two", two(), 2, true},
		{"three", three(), 5, true},
		{"no nodes", at(1, sh("", "", 1, 1)), 0, false},
		{"nodes below 0", at(1, sh("", "", 1, 1)), -1, false},
		{"the least number", at(1, sh("", "", 1, 1)), math.MinInt, false},
		{"MaxNodes", at(1, sh("", "", 1, 1)), api.MaxNodes, true},
		{"a node more", at(1, sh("", "", 1, 1)), api.MaxNodes + 1, false},
		{"the greatest number", at(1, sh("", "", 1, 1)), math.MaxInt, false},
		{"node 0", at(1, sh("", "", 0, 1)), 5, false},
		{"node -1", at(1, sh("", "", -1, 1)), 5, false},
		{"the last node", at(1, sh("", "", 5, 1)), 5, true},
		{"behind the last node", at(1, sh("", "", 5, 1)), 4, false},
		{"behind MaxNodes", at(1, sh("", "", 6, 1)), 6, false},
		{"behind the last node, further on", two(), 1, false},
		{"Epoch 0", at(0, sh("", "", 1, 1)), 5, false},
		{"Epoch 0, all of them", at(0, sh("", "", 1, 0)), 5, false},
		{"Epoch -1", at(-1, sh("", "", 1, -1)), 5, false},
		{"a shard's epoch 0", at(1, sh("", "", 1, 0)), 5, false},
		{"a shard's epoch -1", at(1, sh("", "", 1, -1)), 5, false},
		{"a shard's is the atlas's", at(3, sh("", "", 1, 3)), 5, true},
		{"a shard's is above it", at(3, sh("", "", 1, 4)), 5, false},
		{"a shard's is above it, further on", at(3, sh("", "m", 1, 3), sh("m", "", 1, 4)), 5, false},
		{"a shard's is the greatest", at(3, sh("", "", 1, math.MaxInt)), 5, false},
		{"a great Epoch", at(1<<28-1, sh("", "", 1, 1<<28-1)), 5, true},
		{"a greater Epoch", at(1<<28, sh("", "", 1, 1)), 5, true},
		{"the greatest Epoch", at(math.MaxInt, sh("", "", 1, math.MaxInt)), 5, true},
		{"MaxRanges", full(), 1, true},
		{"one more", at(1, cut(letters(api.MaxRanges)...)...), 1, false},
		{"many more", at(1, cut(letters(26)...)...), 1, false},
		{"it begins later", at(1, sh("\x00", "", 1, 1)), 5, false},
		{"it ends", at(1, sh("", "m", 1, 1)), 5, false},
		{"a gap", at(1, sh("", "m", 1, 1), sh("m\x00", "", 1, 1)), 5, false},
		{"two have a key", at(1, sh("", "m\x00", 1, 1), sh("m", "", 1, 1)), 5, false},
		{"an Empty one", at(1, sh("", "m", 1, 1), sh("m", "m", 1, 1), sh("m", "", 1, 1)), 5, false},
		{"one is told twice", at(1, sh("", "", 1, 1), sh("", "", 1, 1)), 5, false},
		{"not in order", at(1, sh("m", "", 1, 1), sh("", "m", 1, 1)), 5, false},
		{"no end within", at(1, sh("", "", 1, 1), sh("m", "", 1, 1)), 5, false},
		{"a long key", at(1, cut(strings.Repeat("k", api.MaxKey+1))...), 5, true},
	}
	for _, x := range tests {
		if got := May(x.a, x.nodes); got != x.want || got != plainMay(x.a, x.nodes) {
			t.Errorf("%s: May(%+v, %d): %v, want %v", x.name, x.a, x.nodes, got, x.want)
		}
	}
}

func TestP14_1MayOfAllShort(t *testing.T) {
	var all []Shard
	for _, from := range []string{"", "a", "b"} {
		for _, to := range []string{"", "a", "b"} {
			for _, node := range []int{0, 1, 2} {
				for _, epoch := range []int{0, 1, 2} {
					all = append(all, sh(from, to, node, epoch))
				}
			}
		}
	}
	may := 0
	ask := func(l ...Shard) {
		for epoch := range 4 {
			for nodes := range 4 {
				a := Atlas{epoch, l}
				got, want := May(a, nodes), plainMay(a, nodes)
				if got != want {
					t.Fatalf("May(%+v, %d): %v, want %v", a, nodes, got, want)
				}
				if got {
					may++
				}
			}
		}
	}
	ask()
	for _, x := range all {
		ask(x)
		for _, y := range all {
			ask(x, y)
			for _, to := range []string{"", "a", "b"} {
				ask(x, y, sh("b", to, 1, 1))
			}
		}
	}
	if may == 0 {
		t.Error("none may be")
	}
}

func TestP14_1First(t *testing.T) {
	for node := 1; node <= api.MaxNodes; node++ {
		want := Atlas{Epoch: 1, L: []Shard{{Span: api.Span{}, Node: node, Epoch: 1}}}
		if got := First(node); !reflect.DeepEqual(got, want) || !May(got, node) || May(got, node-1) {
			t.Errorf("First(%d): %+v, want %+v", node, got, want)
		}
	}
	for _, node := range []int{math.MinInt, -1, 0, api.MaxNodes + 1, math.MaxInt} { // it refuses none; the atlas may not be
		if got := First(node); !reflect.DeepEqual(got, at(1, sh("", "", node, 1))) || May(got, api.MaxNodes) {
			t.Errorf("First(%d): %+v", node, got)
		}
	}
	a, b := First(1), First(1)
	a.L[0].Node = 2
	if b.L[0].Node != 1 || First(1).L[0].Node != 1 {
		t.Error("two answers share memory")
	}
}

func TestP14_1Owner(t *testing.T) {
	tests := []struct {
		a    Atlas
		key  string
		want int // the shard's place
	}{
		{First(3), "", 0},
		{First(3), "any", 0},
		{First(3), strings.Repeat("\xff", 1000), 0},
		{two(), "", 0},
		{two(), "lzz", 0},
		{two(), "l\xff", 0},
		{two(), "m", 1},
		{two(), "m\x00", 1},
		{two(), "\xff", 1},
		{three(), "a", 0},
		{three(), "b", 1},
		{three(), "c", 1},
		{three(), "m", 2},
		{three(), strings.Repeat("z", api.MaxKey), 2},
		{full(), "kk", 11},
		{full(), "k", 11},
		{full(), "j", 10},
		{at(1, sh("", "m", 1, 1), sh("", "", 2, 1)), "a", 0}, // of what may not be the first one
		{at(0, sh("", "m", 0, 0), sh("", "", -2, 1)), "n", 1},
	}
	for _, x := range tests {
		if got, ok := Owner(x.a, x.key); !ok || got != x.a.L[x.want] {
			t.Errorf("Owner(%+v, %q): %+v, %v", x.a, x.key, got, ok)
		}
	}
	none := []struct {
		a   Atlas
		key string
	}{
		{Atlas{}, ""},
		{at(5), "m"},
		{at(1, sh("b", "", 1, 1)), "a"},
		{at(1, sh("", "b", 1, 1)), "b"},
		{at(1, sh("", "b", 1, 1), sh("c", "", 1, 1)), "bb"},
		{at(1, sh("b", "b", 1, 1)), "b"},
	}
	for _, x := range none {
		if got, ok := Owner(x.a, x.key); ok || got != (Shard{}) {
			t.Errorf("Owner(%+v, %q): %+v, %v", x.a, x.key, got, ok)
		}
	}
}

func TestP14_2TheExample(t *testing.T) {
	same(t, "First 1, Split m", split(First(1), "m"), answer{at(2, sh("", "m", 1, 2), sh("m", "", 1, 2)), places(0), api.OK})
}

func TestP14_2Split(t *testing.T) {
	const last = 1<<28 - 1
	eleven := at(1, cut(letters(api.MaxRanges-2)...)...)
	long := strings.Repeat("k", api.MaxKey+1)
	tests := []struct {
		name string
		a    Atlas
		key  string
		want answer
	}{
		{"the first", two(), "c", answer{at(8, sh("", "c", 1, 8), sh("c", "m", 1, 8), sh("m", "", 2, 7)), places(0), api.OK}},
		{"the last", two(), "x", answer{at(8, sh("", "m", 1, 3), sh("m", "x", 2, 8), sh("x", "", 2, 8)), places(1), api.OK}},
		{"one between", three(), "c", answer{at(10, sh("", "b", 1, 9), sh("b", "c", 2, 10), sh("c", "m", 2, 10), sh("m", "", 1, 1)), places(1), api.OK}},
		{"the least key that may", two(), "\x00", answer{at(8, sh("", "\x00", 1, 8), sh("\x00", "m", 1, 8), sh("m", "", 2, 7)), places(0), api.OK}},
		{"just behind its From", two(), "m\x00", answer{at(8, sh("", "m", 1, 3), sh("m", "m\x00", 2, 8), sh("m\x00", "", 2, 8)), places(1), api.OK}},
		{"just ahead of its To", two(), "l\xff", answer{at(8, sh("", "l\xff", 1, 8), sh("l\xff", "m", 1, 8), sh("m", "", 2, 7)), places(0), api.OK}},
		{"a long key", First(5), long, answer{at(2, sh("", long, 5, 2), sh(long, "", 5, 2)), places(0), api.OK}},
		{"its From, the least key", two(), "", refused(api.ErrArg)},
		{"its From", two(), "m", refused(api.ErrArg)},
		{"room for one", eleven, "zz", answer{at(2, append(slices.Clone(eleven.L[:10]), sh("j", "zz", 1, 2), sh("zz", "", 1, 2))...), places(10), api.OK}},
		{"MaxRanges", full(), "zz", refused(api.ErrFull)},
		{"MaxRanges, the first", full(), "0", refused(api.ErrFull)},
		{"MaxRanges, and its From", full(), "a", refused(api.ErrArg)},
		{"MaxRanges, and the last Epoch", at(last, full().L...), "zz", refused(api.ErrArg)},
		{"too many", at(1, cut(letters(api.MaxRanges)...)...), "zz", refused(api.ErrArg)},
		{"the last Epoch but one", at(last-1, sh("", "", 1, last-1)), "m", answer{at(last, sh("", "m", 1, last), sh("m", "", 1, last)), places(0), api.OK}},
		{"the last Epoch", at(last, sh("", "", 1, 1)), "m", refused(api.ErrArg)},
		{"behind the last Epoch", at(last+1, sh("", "", 1, 1)), "m", refused(api.ErrArg)},
		{"the greatest Epoch", at(math.MaxInt, sh("", "", 1, 1)), "m", refused(api.ErrArg)},
		{"Epoch 0", at(0, sh("", "", 1, 1)), "m", refused(api.ErrArg)},
		{"a zero one", Atlas{}, "m", refused(api.ErrArg)},
		{"a gap", at(1, sh("", "c", 1, 1), sh("d", "", 1, 1)), "x", refused(api.ErrArg)},
		{"in a gap", at(1, sh("", "c", 1, 1), sh("d", "", 1, 1)), "cc", refused(api.ErrArg)},
		{"MaxNodes", First(api.MaxNodes), "m", answer{at(2, sh("", "m", 5, 2), sh("m", "", 5, 2)), places(0), api.OK}},
		{"a node more", First(api.MaxNodes + 1), "m", refused(api.ErrArg)},
		{"node 0", First(0), "m", refused(api.ErrArg)},
	}
	for _, x := range tests {
		same(t, x.name, split(x.a, x.key), x.want)
		same(t, x.name+", plainly", plainSplit(x.a, x.key), x.want)
	}
}

func TestP14_2Merge(t *testing.T) {
	const last = 1<<28 - 1
	tests := []struct {
		name string
		a    Atlas
		i    int
		want answer
	}{
		{"of two nodes", two(), 0, answer{at(8, sh("", "", 1, 8)), places(0, 1), api.OK}},
		{"the first", three(), 0, answer{at(10, sh("", "m", 1, 10), sh("m", "", 1, 1)), places(0, 1), api.OK}},
		{"the last", three(), 1, answer{at(10, sh("", "b", 1, 9), sh("b", "", 2, 10)), places(1, 2), api.OK}},
		{"of one node", at(2, sh("", "m", 4, 2), sh("m", "", 4, 2)), 0, answer{at(3, sh("", "", 4, 3)), places(0, 1), api.OK}},
		{"of MaxRanges", full(), 10, answer{at(2, append(slices.Clone(full().L[:10]), sh("j", "", 1, 2))...), places(10, 11), api.OK}},
		{"no next one", three(), 2, refused(api.ErrArg)},
		{"the only one", First(1), 0, refused(api.ErrArg)},
		{"behind all", three(), 3, refused(api.ErrArg)},
		{"further on", three(), 4, refused(api.ErrArg)},
		{"below 0", three(), -1, refused(api.ErrArg)},
		{"the least number", three(), math.MinInt, refused(api.ErrArg)},
		{"the greatest number", three(), math.MaxInt, refused(api.ErrArg)},
		{"no shards", at(1), 0, refused(api.ErrArg)},
		{"no shards, below 0", at(1), -2, refused(api.ErrArg)},
		{"the last Epoch but one", at(last-1, cut("m")...), 0, answer{at(last, sh("", "", 1, last)), places(0, 1), api.OK}},
		{"the last Epoch", at(last, cut("m")...), 0, refused(api.ErrArg)},
		{"the greatest Epoch", at(math.MaxInt, cut("m")...), 0, refused(api.ErrArg)},
		{"Epoch 0", at(0, cut("m")...), 0, refused(api.ErrArg)},
		{"a gap", at(1, sh("", "c", 1, 1), sh("d", "", 1, 1)), 0, refused(api.ErrArg)},
		{"too many", at(1, cut(letters(api.MaxRanges)...)...), 0, refused(api.ErrArg)},
		{"MaxNodes", at(1, sh("", "m", 5, 1), sh("m", "", 1, 1)), 0, answer{at(2, sh("", "", 5, 2)), places(0, 1), api.OK}},
		{"a node more", at(1, sh("", "m", 1, 1), sh("m", "", 6, 1)), 0, refused(api.ErrArg)},
	}
	for _, x := range tests {
		same(t, x.name, merge(x.a, x.i), x.want)
		same(t, x.name+", plainly", plainMerge(x.a, x.i), x.want)
	}
}

func TestP14_2Move(t *testing.T) {
	const last = 1<<28 - 1
	tests := []struct {
		name           string
		a              Atlas
		i, node, nodes int
		want           answer
	}{
		{"the first", two(), 0, 2, 2, answer{at(8, sh("", "m", 2, 8), sh("m", "", 2, 7)), places(0), api.OK}},
		{"the last", two(), 1, 1, 2, answer{at(8, sh("", "m", 1, 3), sh("m", "", 1, 8)), places(1), api.OK}},
		{"one between", three(), 1, 5, 5, answer{at(10, sh("", "b", 1, 9), sh("b", "m", 5, 10), sh("m", "", 1, 1)), places(1), api.OK}},
		{"to the last node", two(), 0, 3, 3, answer{at(8, sh("", "m", 3, 8), sh("m", "", 2, 7)), places(0), api.OK}},
		{"of MaxRanges", full(), 11, 2, 2, answer{at(2, append(slices.Clone(full().L[:11]), sh("k", "", 2, 2))...), places(11), api.OK}},
		{"its node", two(), 0, 1, 2, refused(api.ErrArg)},
		{"its node, the only one", First(1), 0, 1, 1, refused(api.ErrArg)},
		{"node 0", two(), 0, 0, 2, refused(api.ErrArg)},
		{"node below 0", two(), 0, -1, 2, refused(api.ErrArg)},
		{"behind the last node", two(), 0, 3, 2, refused(api.ErrArg)},
		{"behind MaxNodes", two(), 0, 6, 6, refused(api.ErrArg)},
		{"the greatest node", two(), 0, math.MaxInt, math.MaxInt, refused(api.ErrArg)},
		{"behind all", two(), 2, 1, 2, refused(api.ErrArg)},
		{"below 0", two(), -1, 1, 2, refused(api.ErrArg)},
		{"the least number", two(), math.MinInt, 1, 2, refused(api.ErrArg)},
		{"the greatest number", two(), math.MaxInt, 1, 2, refused(api.ErrArg)},
		{"no nodes", two(), 0, 2, 0, refused(api.ErrArg)},
		{"nodes below 0", two(), 0, 2, -3, refused(api.ErrArg)},
		{"too many nodes", two(), 0, 2, api.MaxNodes + 1, refused(api.ErrArg)},
		{"of fewer nodes than another shard's", two(), 0, 1, 1, refused(api.ErrArg)},
		{"of fewer nodes than the shard's own", two(), 1, 1, 1, refused(api.ErrArg)},
		{"the last Epoch but one", at(last-1, sh("", "", 1, 1)), 0, 2, 5, answer{at(last, sh("", "", 2, last)), places(0), api.OK}},
		{"the last Epoch", at(last, sh("", "", 1, 1)), 0, 2, 5, refused(api.ErrArg)},
		{"the greatest Epoch", at(math.MaxInt, sh("", "", 1, 1)), 0, 2, 5, refused(api.ErrArg)},
		{"Epoch 0", at(0, sh("", "", 1, 1)), 0, 2, 5, refused(api.ErrArg)},
		{"no shards", at(1), 0, 2, 5, refused(api.ErrArg)},
		{"a gap", at(1, sh("", "c", 1, 1), sh("d", "", 1, 1)), 0, 2, 5, refused(api.ErrArg)},
		{"too many", at(1, cut(letters(api.MaxRanges)...)...), 0, 2, 5, refused(api.ErrArg)},
		{"from node 0", First(0), 0, 2, 5, refused(api.ErrArg)},
	}
	for _, x := range tests {
		same(t, x.name, move(x.a, x.i, x.node, x.nodes), x.want)
		same(t, x.name+", plainly", plainMove(x.a, x.i, x.node, x.nodes), x.want)
	}
}

// TestP14_2WhatMayNotBe: whatever an atlas has that none may have, all three refuse it.
func TestP14_2WhatMayNotBe(t *testing.T) {
	roll := dice()
	keys := []string{"", "a", "b", "m", "m\x00", "x"}
	wrong := 0
	for range 60000 {
		a := copied([]Atlas{First(1), two(), three(), at(2, cut("a", "b", "m", "x")...)}[roll(4)])
		s := &a.L[roll(len(a.L))]
		switch roll(6) {
		case 0:
			s.Span.From = keys[roll(len(keys))]
		case 1:
			s.Span.To = keys[roll(len(keys))]
		case 2:
			s.Node = roll(8) - 1
		case 3:
			s.Epoch = roll(12) - 1
		case 4:
			a.Epoch = []int{math.MinInt, -1, 0, 1, 1<<28 - 2, 1<<28 - 1, 1 << 28, math.MaxInt}[roll(8)]
		}
		i, node, nodes, key := roll(7)-1, roll(7)-1, roll(7)-1, keys[roll(len(keys))]+"5"[:roll(2)]
		same(t, []any{"Split", a, key}, split(a, key), plainSplit(a, key))
		same(t, []any{"Merge", a, i}, merge(a, i), plainMerge(a, i))
		same(t, []any{"Move", a, i, node, nodes}, move(a, i, node, nodes), plainMove(a, i, node, nodes))
		if got, ok := Owner(a, key); true {
			if want, there := plainOwner(a, key); got != want || ok != there {
				t.Errorf("Owner(%+v, %q): %+v, %v", a, key, got, ok)
			}
		}
		if May(a, nodes) != plainMay(a, nodes) {
			t.Errorf("May(%+v, %d): %v", a, nodes, May(a, nodes))
		}
		if !plainMay(a, 5) {
			wrong++
		}
		if t.Failed() {
			return
		}
	}
	if wrong < 1000 {
		t.Errorf("just %d that may not be", wrong)
	}
}

// roomy answers a with spare room behind its list, and all of it.
func roomy(a Atlas) (Atlas, []Shard) {
	whole := append(slices.Clone(a.L), sh("spare", "room", 91, 92), sh("is", "kept", 93, 94), sh("as", "it was", 95, 96))
	return Atlas{a.Epoch, whole[:len(a.L)]}, whole
}

// scribble writes over all of both lists, spare room too.
func scribble(x answer) {
	for l := x.a.L[:cap(x.a.L)]; len(l) > 0; l = l[1:] {
		l[0] = sh("written", "over", -1, -2)
	}
	for l := x.gone[:cap(x.gone)]; len(l) > 0; l = l[1:] {
		l[0] = -3
	}
}

func TestP14_2WhatWasIsNotChanged(t *testing.T) {
	for _, was := range []Atlas{First(1), two(), three(), full(), at(1, sh("a", "b", 1, 1)), Atlas{}} {
		asks := []func(Atlas) answer{
			func(a Atlas) answer { return split(a, "a5") },
			func(a Atlas) answer { return split(a, "zz") },
			func(a Atlas) answer { return split(a, "") },
			func(a Atlas) answer { return merge(a, 0) },
			func(a Atlas) answer { return merge(a, len(a.L)-2) },
			func(a Atlas) answer { return merge(a, len(a.L)) },
			func(a Atlas) answer { return move(a, 0, 3, 5) },
			func(a Atlas) answer { return move(a, len(a.L)-1, 5, 5) },
			func(a Atlas) answer { return move(a, 0, 0, 5) },
		}
		for i, ask := range asks {
			a, whole := roomy(was)
			before := slices.Clone(whole)
			first := ask(a)
			kept := answer{copied(first.a), slices.Clone(first.gone), first.e}
			second := ask(a)
			same(t, i, second, kept)
			scribble(first)
			same(t, i, second, kept)
			May(a, 5)
			Owner(a, "m")
			if !slices.Equal(whole, before) {
				t.Fatalf("ask %d of %+v: what was is changed: %+v", i, was, whole)
			}
			scribble(answer{a: Atlas{L: whole}})
			same(t, i, second, kept)
		}
	}
}

// step is one of the three changes, by numbers.
type step struct {
	do, i, node int
	key         string
}

func (s step) real(a Atlas, nodes int) answer {
	switch s.do {
	case 0, 1:
		return split(a, s.key)
	case 2:
		return merge(a, s.i)
	}
	return move(a, s.i, s.node, nodes)
}

func (s step) plain(a Atlas, nodes int) answer {
	switch s.do {
	case 0, 1:
		return plainSplit(a, s.key)
	case 2:
		return plainMerge(a, s.i)
	}
	return plainMove(a, s.i, s.node, nodes)
}

// TestT1OneOwner: of all atlases that come of changes, each key has one owner, and no epoch of a shard is given again.
func TestT1OneOwner(t *testing.T) {
	roll := dice()
	for run := range 60 {
		nodes := 1 + run%api.MaxNodes
		a := First(1 + roll(nodes))
		given := map[Shard]int{a.L[0]: 0}
		greatest := 1
		var all, were []Atlas
		for i := range 200 {
			s := step{roll(4), roll(len(a.L)+2) - 1, roll(nodes+2) - 1, strings.Repeat(letters(4)[roll(4)], 1+roll(5))}
			x := s.real(a, nodes)
			same(t, s, x, s.plain(a, nodes))
			if x.e != api.OK {
				continue
			}
			for _, n := range x.a.L {
				switch place := slices.Index(a.L, n); {
				case place >= 0 && slices.Contains(x.gone, place):
					t.Fatalf("%+v is taken away, and is there", n)
				case place < 0 && (n.Epoch <= greatest || n.Epoch != x.a.Epoch):
					t.Fatalf("%+v is new, of an epoch that was", n)
				case place < 0:
					if was, ok := given[n]; ok {
						t.Fatalf("%+v was given at %d", n, was)
					}
					given[n] = i
				}
			}
			for place, o := range a.L {
				if slices.Contains(x.a.L, o) == slices.Contains(x.gone, place) {
					t.Fatalf("%+v of place %d: %+v, %v", o, place, x.a, x.gone)
				}
			}
			if !May(x.a, nodes) || x.a.Epoch != a.Epoch+1 {
				t.Fatalf("%+v may not be behind %+v", x.a, a)
			}
			a, greatest = x.a, x.a.Epoch
			all, were = append(all, a), append(were, copied(a))
			owned(t, a)
		}
		if !reflect.DeepEqual(all, were) {
			t.Fatal("an atlas that was is changed")
		}
		if len(all) < 20 {
			t.Errorf("just %d changes", len(all))
		}
	}
}

// owned tells of a key that has not just one owner, or another one than Owner says.
func owned(t *testing.T, a Atlas) {
	t.Helper()
	for _, key := range near(a.L) {
		var owners []Shard
		for _, s := range a.L {
			if has(s.Span, key) {
				owners = append(owners, s)
			}
		}
		if got, ok := Owner(a, key); !ok || len(owners) != 1 || got != owners[0] {
			t.Fatalf("Owner(%+v, %q): %+v, %v, want %+v", a, key, got, ok, owners)
		}
	}
}

// TestListIsGeneric: it serves whatever lists there are.
func TestListIsGeneric(t *testing.T) {
	if got := list([]string{"a", "", "bcd"}, func(s string) int { return len(s) }); !slices.Equal(got, places(1, 0, 3)) {
		t.Errorf("%v", got)
	}
	if got := list(nil, func(n int) string { return "x" }); len(got) != 0 {
		t.Errorf("%v", got)
	}
}
