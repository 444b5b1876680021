package sortkey

import (
	"cmp"
	"encoding/binary"
	"math"
	"reflect"
	"slices"
	"strings"
	"testing"

	"gazetteer/api"
	"gazetteer/weigh"
)

// el makes elements from their weights, three by three.
func el(weights ...int) []api.Element {
	var l []api.Element
	for w := range slices.Chunk(weights, 3) {
		l = append(l, api.Element{P: w[0], S: w[1], T: w[2]})
	}
	return l
}

// of makes a row of the runes of a text.
func of(text string, weights ...int) api.Row { return api.Row{Of: []rune(text), To: el(weights...)} }

// levels makes the four levels.
func levels(p, s, t, last []int) [4][]int { return [4][]int{p, s, t, last} }

func sameLevels(a, b [4][]int) bool {
	for i := range a {
		if !slices.Equal(a[i], b[i]) {
			return false
		}
	}
	return true
}

// sample is a table with a variable blank and point, two letters in two cases, a mark, é to e U+0301, a row that weighs nothing, and one of T alone.
func sample() api.Table {
	return api.Table{
		Lore: []api.Lore{{R: 0xe9, To: []rune{'e', 0x301}}, {R: 0x301, Class: 230}, {R: 0x323, Class: 220}},
		Rows: []api.Row{
			of("\x00"),
			of("\x01", 0, 0, 7),
			of(" ", 5, 2, 2),
			of(".", 6, 2, 2),
			of("A", 20, 2, 8),
			of("a", 20, 2, 2),
			of("b", 300, 2, 2),
			of("e", 21, 2, 2),
			of("\u0301", 0, 40, 3),
		},
		Top: 10,
	}
}

// shifted is the table with its variable elements shifted.
func shifted(t api.Table) api.Table {
	t.Shifted = true
	return t
}

type levelsTest struct {
	l    []api.Element
	want [4][]int
}

func checkLevels(t *testing.T, table api.Table, tests []levelsTest) {
	t.Helper()
	for _, x := range tests {
		if got := Levels(table, x.l); !sameLevels(got, x.want) {
			t.Errorf("Levels(Top %d, Shifted %v, %v): %v, want %v", table.Top, table.Shifted, x.l, got, x.want)
		}
	}
}

func TestP4_1LevelsNotShifted(t *testing.T) {
	tests := []levelsTest{
		{nil, levels(nil, nil, nil, nil)},
		{[]api.Element{}, levels(nil, nil, nil, nil)},
		{el(0, 0, 0), levels(nil, nil, nil, nil)},
		{el(1, 2, 3), levels([]int{1}, []int{2}, []int{3}, nil)},
		{el(1, 2, 3, 4, 5, 6), levels([]int{1, 4}, []int{2, 5}, []int{3, 6}, nil)},
		{el(4, 5, 6, 1, 2, 3), levels([]int{4, 1}, []int{5, 2}, []int{6, 3}, nil)}, // as they stand, not sorted
		{el(0, 2, 3), levels(nil, []int{2}, []int{3}, nil)},
		{el(0, 0, 3), levels(nil, nil, []int{3}, nil)},
		{el(9, 0, 0), levels([]int{9}, nil, nil, nil)},
		{el(10, 1, 1, 0, 7, 7, 11, 1, 1, 0, 8, 8), levels([]int{10, 11}, []int{1, 7, 1, 8}, []int{1, 7, 1, 8}, nil)},
		{el(0, 0, 0, 5, 5, 5, 0, 0, 0), levels([]int{5}, []int{5}, []int{5}, nil)},
		{el(60000, 200, 200), levels([]int{60000}, []int{200}, []int{200}, nil)},
		{el(64000, 32, 2, 60098, 0, 0), levels([]int{64000, 60098}, []int{32}, []int{2}, nil)},
	}
	for _, top := range []int{0, 10, 60000} { // variable elements are as others
		checkLevels(t, api.Table{Top: top}, tests)
	}
}

const f = 65535

func TestP4_1LevelsShifted(t *testing.T) {
	checkLevels(t, api.Table{Top: 10, Shifted: true}, []levelsTest{
		{nil, levels(nil, nil, nil, nil)},
		{[]api.Element{}, levels(nil, nil, nil, nil)},

		{el(1, 2, 3), levels(nil, nil, nil, []int{1})},
		{el(10, 2, 3), levels(nil, nil, nil, []int{10})},
		{el(11, 2, 3), levels([]int{11}, []int{2}, []int{3}, []int{f})},
		{el(60000, 2, 3), levels([]int{60000}, []int{2}, []int{3}, []int{f})},
		{el(11, 0, 0), levels([]int{11}, nil, nil, []int{f})},
		{el(64000, 32, 2, 60098, 0, 0), levels([]int{64000, 60098}, []int{32}, []int{2}, []int{f, f})},

		{el(0, 0, 0), levels(nil, nil, nil, nil)},
		{el(0, 0, 3), levels(nil, nil, []int{3}, []int{f})},
		{el(0, 2, 3), levels(nil, []int{2}, []int{3}, []int{f})},
		{el(0, 2, 0), levels(nil, []int{2}, nil, nil)}, // T is not above 0

		{el(9, 2, 3, 8, 4, 5), levels(nil, nil, nil, []int{9, 8})},
		{el(9, 2, 3, 12, 4, 5, 8, 6, 7), levels([]int{12}, []int{4}, []int{5}, []int{9, f, 8})},

		{el(9, 2, 3, 0, 4, 5), levels(nil, nil, nil, []int{9})},
		{el(9, 2, 3, 0, 0, 5), levels(nil, nil, nil, []int{9})},
		{el(9, 2, 3, 0, 4, 0), levels(nil, nil, nil, []int{9})},
		{el(9, 2, 3, 0, 4, 5, 0, 6, 7, 0, 0, 0, 0, 8, 9), levels(nil, nil, nil, []int{9})},
		{el(9, 2, 3, 0, 0, 0, 0, 4, 5), levels(nil, nil, nil, []int{9})}, // one of all noughts is no end of it
		{el(9, 2, 3, 0, 4, 5, 8, 2, 3, 0, 4, 5), levels(nil, nil, nil, []int{9, 8})},
		{el(9, 2, 3, 0, 4, 5, 12, 2, 3, 0, 6, 7), levels([]int{12}, []int{2, 6}, []int{3, 7}, []int{9, f, f})},
		{el(12, 2, 3, 0, 4, 5), levels([]int{12}, []int{2, 4}, []int{3, 5}, []int{f, f})},
		{el(0, 4, 5, 9, 2, 3), levels(nil, []int{4}, []int{5}, []int{f, 9})}, // ahead of it all are told
		{el(12, 2, 3, 9, 1, 1, 0, 4, 5, 12, 6, 7), levels([]int{12, 12}, []int{2, 6}, []int{3, 7}, []int{f, 9, f})},
		{el(12, 1, 1, 12, 1, 1, 12, 1, 1), levels([]int{12, 12, 12}, []int{1, 1, 1}, []int{1, 1, 1}, []int{f, f, f})}, // 65535s are kept to the end
		{el(9, 1, 1, 12, 1, 1, 12, 1, 1), levels([]int{12, 12}, []int{1, 1}, []int{1, 1}, []int{9, f, f})},
	})
}

func TestP4_1LevelsByTop(t *testing.T) {
	l := el(1, 1, 1, 0, 2, 2, 60000, 3, 3, 0, 4, 4, 64000, 5, 5)
	for _, x := range []struct {
		top  int
		want [4][]int
	}{
		{0, levels([]int{1, 60000, 64000}, []int{1, 2, 3, 4, 5}, []int{1, 2, 3, 4, 5}, []int{f, f, f, f, f})}, // nothing is variable
		{1, levels([]int{60000, 64000}, []int{3, 4, 5}, []int{3, 4, 5}, []int{1, f, f, f})},
		{59999, levels([]int{60000, 64000}, []int{3, 4, 5}, []int{3, 4, 5}, []int{1, f, f, f})},
		{60000, levels([]int{64000}, []int{5}, []int{5}, []int{1, 60000, f})},
	} {
		checkLevels(t, api.Table{Top: x.top, Shifted: true}, []levelsTest{{l, x.want}})
	}
}

// Levels refuses nothing, so any numbers and any tables are taken as the promise's words say.
func TestP4_1LevelsOfAnyNumbers(t *testing.T) {
	checkLevels(t, api.Table{Top: 10}, []levelsTest{
		{el(-1, -2, -3), levels(nil, nil, nil, nil)},
		{el(-1, 2, 3), levels(nil, []int{2}, []int{3}, nil)},
		{el(math.MaxInt, math.MinInt, 1<<20), levels([]int{math.MaxInt}, nil, []int{1 << 20}, nil)},
	})
	checkLevels(t, api.Table{Top: 10, Shifted: true}, []levelsTest{
		{el(-1, -2, -3), levels(nil, nil, nil, nil)},
		{el(-1, 2, 3), levels(nil, []int{2}, []int{3}, nil)},
		{el(0, -2, -3), levels(nil, nil, nil, nil)},
		{el(0, -2, 3), levels(nil, nil, []int{3}, []int{f})},
		{el(9, 1, 1, -1, 2, 2, 0, 3, 3, 11, 4, 4), levels([]int{11}, []int{2, 4}, []int{2, 4}, []int{9, f})}, // P below 0 is neither left out nor an end
		{el(math.MaxInt, 1, 1), levels([]int{math.MaxInt}, []int{1}, []int{1}, []int{f})},
		{el(math.MinInt, 1, 1), levels(nil, []int{1}, []int{1}, nil)},
	})
	checkLevels(t, api.Table{Top: math.MaxInt, Shifted: true}, []levelsTest{
		{el(math.MaxInt, 1, 1, 0, 1, 1), levels(nil, nil, nil, []int{math.MaxInt})},
	})
	checkLevels(t, api.Table{Top: -2, Shifted: true}, []levelsTest{
		{el(1, 1, 1, 0, 2, 2), levels([]int{1}, []int{1, 2}, []int{1, 2}, []int{f, f})},
		{el(0, 0, 0), levels(nil, nil, nil, nil)},
		{el(-1, 0, 0), levels(nil, nil, nil, []int{f})},
		{el(-2, 0, 0), levels(nil, nil, nil, nil)},
	})
	bad := api.Table{Rows: []api.Row{of("ab")}, Top: 1, Shifted: true}
	checkLevels(t, bad, []levelsTest{{el(1, 1, 1, 2, 2, 2), levels([]int{2}, []int{2}, []int{2}, []int{1, f})}})
}

// plainLevels is the promise in two steps: first what is left out, then each level by itself.
func plainLevels(t api.Table, l []api.Element) [4][]int {
	variable := func(x api.Element) bool { return t.Shifted && x.P >= 1 && x.P <= t.Top }
	var kept []api.Element
	for i, x := range l {
		ahead := i
		for ahead > 0 && l[ahead].P == 0 {
			ahead--
		}
		if x.P != 0 || !variable(l[ahead]) {
			kept = append(kept, x)
		}
	}
	var out [4][]int
	add := func(level int, of func(x api.Element) int) {
		for _, x := range kept {
			if w := of(x); w > 0 {
				out[level] = append(out[level], w)
			}
		}
	}
	unless := func(x api.Element, w int) int {
		if variable(x) {
			return 0
		}
		return w
	}
	add(0, func(x api.Element) int { return unless(x, x.P) })
	add(1, func(x api.Element) int { return unless(x, x.S) })
	add(2, func(x api.Element) int { return unless(x, x.T) })
	add(3, func(x api.Element) int {
		switch {
		case variable(x):
			return x.P
		case t.Shifted && (x.P > t.Top || x.P == 0 && x.T > 0):
			return f
		}
		return 0
	})
	return out
}

func TestP4_1LevelsOfAllShortLists(t *testing.T) {
	some := el(0, 0, 0, 0, 0, 3, 0, 2, 3, 0, 2, 0, 1, 2, 3, 10, 4, 5, 11, 6, 7, 60098, 0, 0)
	lists := [][]api.Element{nil}
	for range 5 {
		var longer [][]api.Element
		for _, l := range lists {
			for _, top := range []int{0, 1, 10, 60000} {
				for _, shifted := range []bool{false, true} {
					table := api.Table{Top: top, Shifted: shifted}
					if got, want := Levels(table, l), plainLevels(table, l); !sameLevels(got, want) {
						t.Fatalf("Levels(Top %d, Shifted %v, %v): %v, want %v", top, shifted, l, got, want)
					}
				}
			}
			for _, x := range some {
				longer = append(longer, append(slices.Clone(l), x))
			}
		}
		lists = longer
	}
}

func TestP4_1LevelsOfMuch(t *testing.T) {
	const many = 1 << 20
	l := slices.Repeat(el(1, 1, 1, 0, 2, 2, 11, 3, 3, 0, 4, 4), many/4)
	got := Levels(api.Table{Top: 10, Shifted: true}, l)
	want := levels(slices.Repeat([]int{11}, many/4), slices.Repeat([]int{3, 4}, many/4), slices.Repeat([]int{3, 4}, many/4), slices.Repeat([]int{1, f, f}, many/4))
	if !sameLevels(got, want) {
		t.Errorf("Levels of much: %d, %d, %d, %d weights", len(got[0]), len(got[1]), len(got[2]), len(got[3]))
	}
}

type makeTest struct {
	text, want string
}

func checkMake(t *testing.T, table api.Table, tests []makeTest) {
	t.Helper()
	for _, x := range tests {
		if got, e := Make(table, x.text); got != x.want || e != api.OK {
			t.Errorf("Make(%+q): %x, %v, want %x", x.text, got, e, x.want)
		}
	}
}

const six = "\x00\x00\x00\x00\x00\x00"

func TestP4_2MakeNotShifted(t *testing.T) {
	checkMake(t, api.Table{}, []makeTest{
		{"", six},
		{"a", "\xfa\x00\xea\xc2\x00\x00\x00\x20\x00\x00\x00\x02\x00\x00"}, // what has no row: 64000 + 0, 60001 + 97
		{"\U0010ffff", "\xfb\x16\xf3\xb6\x00\x00\x00\x20\x00\x00\x00\x02\x00\x00"},
	})
	checkMake(t, sample(), []makeTest{
		{"", six},
		{"\x00", six},
		{"\x00\x00\x00", six},
		{"\x01", "\x00\x00\x00\x00\x00\x07\x00\x00"},
		{"a", "\x00\x14\x00\x00\x00\x02\x00\x00\x00\x02\x00\x00"},
		{"A", "\x00\x14\x00\x00\x00\x02\x00\x00\x00\x08\x00\x00"},
		{"b", "\x01\x2c\x00\x00\x00\x02\x00\x00\x00\x02\x00\x00"}, // two bytes, the highest first
		{"ab", "\x00\x14\x01\x2c\x00\x00\x00\x02\x00\x02\x00\x00\x00\x02\x00\x02\x00\x00"},
		{"a.", "\x00\x14\x00\x06\x00\x00\x00\x02\x00\x02\x00\x00\x00\x02\x00\x02\x00\x00"}, // a variable one is as others
		{"\u00e9", "\x00\x15\x00\x00\x00\x02\x00\x28\x00\x00\x00\x02\x00\x03\x00\x00"},
		{"e\u0301", "\x00\x15\x00\x00\x00\x02\x00\x28\x00\x00\x00\x02\x00\x03\x00\x00"},
		{"\u0301", "\x00\x00\x00\x28\x00\x00\x00\x03\x00\x00"},
	})
	checkMake(t, api.Table{Rows: []api.Row{of("a", 60000, 200, 200)}}, []makeTest{
		{"a", "\xea\x60\x00\x00\x00\xc8\x00\x00\x00\xc8\x00\x00"},
	})
}

func TestP4_2MakeShifted(t *testing.T) {
	checkMake(t, shifted(api.Table{}), []makeTest{
		{"", six},
		{"a", "\xfa\x00\xea\xc2\x00\x00\x00\x20\x00\x00\x00\x02\x00\x00\xff\xff\xff\xff"},
	})
	checkMake(t, shifted(sample()), []makeTest{
		{"", six},
		{"\x00", six},
		{"\x01", "\x00\x00\x00\x00\x00\x07\x00\x00\xff\xff"},
		{" ", "\x00\x00\x00\x00\x00\x00\x00\x05"},
		{". ", "\x00\x00\x00\x00\x00\x00\x00\x06\x00\x05"},
		{" \u0301", "\x00\x00\x00\x00\x00\x00\x00\x05"},
		{"a", "\x00\x14\x00\x00\x00\x02\x00\x00\x00\x02\x00\x00\xff\xff"},
		{" a", "\x00\x14\x00\x00\x00\x02\x00\x00\x00\x02\x00\x00\x00\x05\xff\xff"},
		{"a ", "\x00\x14\x00\x00\x00\x02\x00\x00\x00\x02\x00\x00\xff\xff\x00\x05"},
		{" \u0301a\u0301", "\x00\x14\x00\x00\x00\x02\x00\x28\x00\x00\x00\x02\x00\x03\x00\x00\x00\x05\xff\xff\xff\xff"},
		{"\u00e9", "\x00\x15\x00\x00\x00\x02\x00\x28\x00\x00\x00\x02\x00\x03\x00\x00\xff\xff\xff\xff"},
	})
}

type refusal struct {
	what string
	t    api.Table
	text string
	want api.Errno
}

func checkRefusals(t *testing.T, tests []refusal) {
	t.Helper()
	for _, x := range tests {
		if got, e := Make(x.t, x.text); e != x.want || e != api.OK && got != "" {
			t.Errorf("Make of %s: %x, %v, want %v", x.what, got, e, x.want)
		}
	}
}

func TestP4_2MakeRefuses(t *testing.T) {
	bad := api.Table{Rows: []api.Row{of("ab")}}
	long := strings.Repeat("a", api.MaxText+1)
	checkRefusals(t, []refusal{
		{"a table that may not be", bad, "a", api.ErrTable},
		{"nothing by a table that may not be", bad, "", api.ErrTable},
		{"a Top that may not be", api.Table{Top: 60001}, "a", api.ErrTable},
		{"a lore that may not be", api.Table{Lore: []api.Lore{{R: 'a'}}}, "a", api.ErrTable},
		{"too long a text by a table that may not be", bad, long, api.ErrTable},
		{"no text by a table that may not be", bad, "\xff", api.ErrTable},
		{"no text, too long, by a table that may not be", bad, long + "\xff", api.ErrTable},

		{"no UTF-8", sample(), "\xff", api.ErrText},
		{"no UTF-8 at its end", sample(), "ab\xc3", api.ErrText},
		{"no shortest form", sample(), "\xc0\x80", api.ErrText},
		{"a surrogate", sample(), "a\xed\xa0\x80", api.ErrText},
		{"above U+10FFFF", sample(), "\xf4\x90\x80\x80", api.ErrText},
		{"no UTF-8 of MaxText bytes", sample(), long[:api.MaxText-1] + "\xff", api.ErrText},

		{"MaxText bytes", sample(), long[:api.MaxText], api.OK},
		{"MaxText bytes, half as many runes", sample(), strings.Repeat("\u0323", api.MaxText/2), api.OK},
		{"one byte more", sample(), long, api.ErrLong},
		{"one byte more, fewer runes", sample(), strings.Repeat("\u0323", api.MaxText/2) + "a", api.ErrLong},
		{"one byte more of what weighs nothing", sample(), strings.Repeat("\x00", api.MaxText+1), api.ErrLong},
		{"too long a text that is no UTF-8", sample(), long + "\xff", api.ErrLong},
		{"too long a text that begins with no UTF-8", sample(), "\xff" + long, api.ErrLong},
		{"one byte more, cut in a rune", sample(), long[:api.MaxText] + "\xc3", api.ErrLong},
	})
}

// heavy is a table of rows that have so many weights as their runes say: 1, 3, and c (12).
func heavy() api.Table {
	return api.Table{Rows: []api.Row{of("1", 0, 0, 1), of("3", 20, 2, 2), of("c", 20, 2, 2, 20, 2, 2, 20, 2, 2, 20, 2, 2)}}
}

// A key of n weights has 6 and twice n bytes: MaxKey are 317.
func TestP4_2MakeOfLongKeys(t *testing.T) {
	full := strings.Repeat("c", 26) + "311"
	checkRefusals(t, []refusal{
		{"a key of MaxKey", heavy(), full, api.OK},
		{"a key of MaxKey, and what weighs nothing", api.Table{Rows: append([]api.Row{of("0")}, heavy().Rows...)}, full + "00", api.OK},
		{"a key of a weight more", heavy(), full + "1", api.ErrLong},
		{"a key of a weight more, ahead", heavy(), "1" + full, api.ErrLong},
		{"a much longer key", heavy(), strings.Repeat("c", api.MaxText), api.ErrLong},
		{"a longer key by what is shifted", shifted(heavy()), full, api.ErrLong},
		{"a longer key of what is no UTF-8", heavy(), full + "1\xff", api.ErrText},
		{"a longer key of too long a text that is no UTF-8", heavy(), full + strings.Repeat("\xff", api.MaxText), api.ErrLong},
	})
	if key, _ := Make(heavy(), full); len(key) != api.MaxKey {
		t.Errorf("the key of MaxKey has %d bytes", len(key))
	}
	// Shifted, each that is told has one weight more.
	heavier := shifted(heavy())
	heavier.Rows = slices.Insert(heavier.Rows, 1, of("2", 0, 2, 2))
	checkRefusals(t, []refusal{
		{"a shifted key of MaxKey", heavier, strings.Repeat("c", 19) + "3312", api.OK},
		{"a shifted key of a weight more", heavier, strings.Repeat("c", 19) + "3331", api.ErrLong},
	})
	low := shifted(heavy())
	low.Top = 20
	key, e := Make(low, strings.Repeat("c", api.MaxText))
	if want := six + strings.Repeat("\x00\x14", 4*api.MaxText); key != want || e != api.OK {
		t.Errorf("Make of variable ones alone: %d bytes, %v, want %d", len(key), e, len(want))
	}
}

func TestP4_2Compare(t *testing.T) {
	for _, x := range []struct {
		t    api.Table
		a, b string
		want int
	}{
		{sample(), "", "", 0},
		{sample(), "", "\x00", 0},
		{sample(), "", "a", -1},
		{sample(), "a", "", 1},
		{sample(), "a", "a", 0},
		{sample(), "a", "b", -1},
		{sample(), "b", "a", 1},
		{sample(), "a", "A", -1}, // by the third level
		{sample(), "A", "ab", -1},
		{sample(), "A", "b", -1},
		{sample(), "e", "\u00e9", -1}, // by the second level
		{sample(), "\u00e9", "e\u0301", 0},
		{sample(), "\u00e9a", "ea", 1},
		{sample(), "\u00e9a", "eb", -1}, // the first level comes first
		{sample(), "z", "b", 1},         // what has no row is above what has
		{sample(), "z", "y", 1},
		{sample(), "z", "\u00ff", -1},
		{sample(), "b", "\U0010ffff", -1},
		{sample(), "a", "a ", -1},
		{sample(), "a b", "ab", -1}, // a variable one is as others
		{sample(), "a b", "a.b", -1},
		{sample(), " b", "a", -1},
		{shifted(sample()), "a b", "ab", -1}, // by the fourth level
		{shifted(sample()), "a b", "aB", -1},
		{shifted(sample()), " b", "a", 1},
		{shifted(sample()), "a b", "a.b", -1},
		{shifted(sample()), "a b", "A", 1},
		{shifted(sample()), "a ", "A", -1},
		{shifted(sample()), "a \u0301", "a ", 0}, // left out
		{shifted(sample()), "a", "a ", -1},
		{shifted(sample()), " ", "\x00", 1},
	} {
		if got, e := Compare(x.t, x.a, x.b); got != x.want || e != api.OK {
			t.Errorf("Compare(Shifted %v, %+q, %+q): %d, %v, want %d", x.t.Shifted, x.a, x.b, got, e, x.want)
		}
	}
}

func TestP4_2CompareRefuses(t *testing.T) {
	bad := api.Table{Top: -1}
	long := strings.Repeat("a", api.MaxText+1)
	heavyText := strings.Repeat("c", 27)
	for i, x := range []struct {
		t    api.Table
		a, b string
		want api.Errno
	}{
		{bad, "a", "b", api.ErrTable},
		{bad, "\xff", long, api.ErrTable},
		{bad, long, "\xff", api.ErrTable},
		{sample(), "\xff", "b", api.ErrText},
		{sample(), "a", "\xff", api.ErrText},
		{sample(), long, "b", api.ErrLong},
		{sample(), "a", long, api.ErrLong},
		{sample(), "\xff", long, api.ErrText},
		{sample(), long, "\xff", api.ErrLong},
		{sample(), "\xff", "\xff", api.ErrText},
		{sample(), long, long, api.ErrLong},
		{heavy(), heavyText, "c", api.ErrLong},
		{heavy(), "c", heavyText, api.ErrLong},
		{heavy(), heavyText, "\xff", api.ErrLong},
		{heavy(), "\xff", heavyText, api.ErrText},
		{heavy(), heavyText, heavyText, api.ErrLong},
	} {
		if got, e := Compare(x.t, x.a, x.b); got != 0 || e != x.want {
			t.Errorf("Compare %d: %d, %v, want 0, %v", i, got, e, x.want)
		}
	}
}

// texts makes all texts of some runes that are at most so long.
func texts(most int, some string) []string {
	all := []string{""}
	for start := 0; most > 0; most-- {
		end := len(all)
		for _, s := range all[start:end] {
			for _, r := range some {
				all = append(all, s+string(r))
			}
		}
		start = end
	}
	return all
}

// plainKey is the promise word by word.
func plainKey(levels [4][]int) string {
	var b []byte
	for i, level := range levels {
		if i > 0 {
			b = binary.BigEndian.AppendUint16(b, 0)
		}
		for _, w := range level {
			b = binary.BigEndian.AppendUint16(b, uint16(w))
		}
	}
	return string(b)
}

// compareLevels orders by the first level, then by the second, and on.
func compareLevels(a, b [4][]int) int {
	return cmp.Or(slices.Compare(a[0], b[0]), slices.Compare(a[1], b[1]), slices.Compare(a[2], b[2]), slices.Compare(a[3], b[3]))
}

func TestP4_2AllShortTexts(t *testing.T) {
	for _, table := range []api.Table{sample(), shifted(sample())} {
		all := texts(3, "\x00\x01 .Aabe\u00e9\u0301\u0323z")
		known := make([][4][]int, len(all))
		for i, text := range all {
			l, _ := weigh.Elements(table, []rune(text))
			known[i] = plainLevels(table, l)
			checkMake(t, table, []makeTest{{text, plainKey(known[i])}})
		}
		for i := 0; i < len(all); i += 3 {
			for j := i % 11; j < len(all); j += 41 {
				if got, e := Compare(table, all[i], all[j]); got != compareLevels(known[i], known[j]) || e != api.OK {
					t.Fatalf("Compare(%+q, %+q): %d, %v", all[i], all[j], got, e)
				}
			}
		}
	}
}

// A weight has two bytes, none of them is taken for the end of a level.
func TestP4_2KeysStandByTheirWeights(t *testing.T) {
	var rows []api.Row
	weights := []int{1, 2, 255, 256, 257, 511, 512, 4096, 59999, 60000}
	for i, w := range weights {
		rows = append(rows, of(string(rune('a'+i)), w, 1, 1))
	}
	table := api.Table{Rows: rows}
	all := texts(2, "abcdefghij")
	slices.Sort(all)
	for i := 1; i < len(all); i++ {
		if got, e := Compare(table, all[i-1], all[i]); got != -1 || e != api.OK {
			t.Errorf("Compare(%q, %q): %d, %v, want -1", all[i-1], all[i], got, e)
		}
	}
}

func TestR4LeavesWhatIsHandedIn(t *testing.T) {
	table := shifted(sample())
	for i := range table.Rows {
		table.Rows[i].To = slices.Grow(table.Rows[i].To, 4)
		table.Rows[i].Of = slices.Grow(table.Rows[i].Of, 4)
	}
	all := el(9, 2, 3, 0, 4, 5, 12, 2, 3, 0, 0, 0, 0, 6, 7, 8, 8, 8, 9, 9, 9)
	l := slices.Clone(all)
	Levels(table, l[:5])
	if !slices.Equal(l, all) {
		t.Errorf("elements were changed: %v", l)
	}
	Make(table, "a \u0301\u00e9z")
	Compare(table, "a \u0301\u00e9z", "\x00\x01b")
	for i, x := range sample().Rows {
		if y := table.Rows[i]; !slices.Equal(x.Of, y.Of) || !slices.Equal(x.To, y.To) {
			t.Errorf("row %d was changed: %v", i, y)
		}
		if y := table.Rows[i]; slices.ContainsFunc(y.Of[len(y.Of):cap(y.Of)], func(r rune) bool { return r != 0 }) || slices.ContainsFunc(y.To[len(y.To):cap(y.To)], func(e api.Element) bool { return e != api.Element{} }) {
			t.Errorf("what is behind row %d was changed", i)
		}
	}
}

func TestR4AnswersNewMemory(t *testing.T) {
	for _, table := range []api.Table{sample(), shifted(sample())} {
		l := el(9, 2, 3, 0, 4, 5, 12, 2, 3, 0, 0, 4, 0, 6, 7)
		want := plainLevels(table, l)
		for level := range want {
			got := Levels(table, l)
			whole := got[level][:cap(got[level])]
			for i := range whole {
				whole[i] = -1
			}
			got[level] = want[level]
			if !sameLevels(got, want) || !sameLevels(Levels(table, l), want) {
				t.Errorf("level %d shares memory: %v", level, got)
			}
		}
	}
}

func TestR5SameAgain(t *testing.T) {
	first, _ := Make(sample(), "ab\u00e9")
	Make(shifted(sample()), "z")
	Make(api.Table{Top: -1}, "z")
	if again, e := Make(sample(), "ab\u00e9"); again != first || e != api.OK {
		t.Errorf("Make again: %x, %v, want %x", again, e, first)
	}
}

func TestCopyHasListsOfItsOwn(t *testing.T) {
	was, keep := sample(), sample()
	keep.Shifted = true
	keep.Lore = append(keep.Lore, api.Lore{R: 'z'})[:len(keep.Lore)] // room that is not zero
	c := Copy(keep)
	if !reflect.DeepEqual(c, shifted(was)) || !reflect.DeepEqual(keep, shifted(was)) || keep.Lore[:cap(keep.Lore)][len(keep.Lore)].R != 'z' {
		t.Errorf("a copy of\n%+v:\n%+v", keep, c)
	}
	for i := range keep.Lore {
		clear(keep.Lore[i].To)
	}
	for i := range keep.Rows {
		clear(keep.Rows[i].Of)
		clear(keep.Rows[i].To)
	}
	clear(keep.Lore)
	clear(keep.Rows)
	if !reflect.DeepEqual(c, shifted(was)) {
		t.Errorf("the copy changes with what it is of:\n%+v", c)
	}
	if none := Copy(api.Table{}); !reflect.DeepEqual(none, api.Table{}) {
		t.Errorf("a copy of nothing: %+v", none)
	}
}
