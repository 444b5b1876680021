package weigh

import (
	"slices"
	"testing"

	"gazetteer/api"
	"gazetteer/lore"
)

// el makes the elements of a row from their weights, three by three.
func el(weights ...int) []api.Element {
	var l []api.Element
	for w := range slices.Chunk(weights, 3) {
		l = append(l, api.Element{P: w[0], S: w[1], T: w[2]})
	}
	return l
}

// of makes a row of the runes of a text.
func of(text string, to ...api.Element) api.Row { return api.Row{Of: []rune(text), To: to} }

// marks is a lore with three classes, two marks in each of the upper ones, and é to e U+0301.
func marks() []api.Lore {
	return []api.Lore{
		{R: 0xe9, To: []rune{'e', 0x301}},
		{R: 0x301, Class: 230},
		{R: 0x308, Class: 230},
		{R: 0x323, Class: 220},
		{R: 0x324, Class: 220},
		{R: 0x327, Class: 202},
	}
}

// sample is a table with rows of one to three runes, of marks alone, with marks behind a rune, with a row whose runes are not all there as shorter rows (a U+0327 U+0301), and one that weighs nothing.
func sample() api.Table {
	return api.Table{Lore: marks(), Rows: []api.Row{
		of("!"),
		of("a", el(10, 2, 2)...),
		of("a\u0301", el(11, 2, 2)...),
		of("a\u0301\u0308", el(12, 2, 2)...),
		of("a\u0323", el(13, 2, 2)...),
		of("a\u0323\u0301", el(14, 2, 2)...),
		of("a\u0327\u0301", el(15, 2, 2)...),
		of("c", el(20, 2, 2)...),
		of("ch", el(21, 2, 2, 22, 2, 3)...),
		of("cha", el(23, 2, 2)...),
		of("e", el(30, 2, 2)...),
		of("\u0301", el(0, 31, 2)...),
		of("\u0308", el(0, 0, 32)...),
		of("\u0323", el(0, 33, 2)...),
		of("\u0323\u0301", el(0, 34, 2)...),
	}}
}

// rows is a table without lore that has those rows.
func rows(l ...api.Row) api.Table { return api.Table{Rows: l} }

// many makes so many rows of one rune each.
func many(n int) api.Table {
	var t api.Table
	for i := range n {
		t.Rows = append(t.Rows, of(string(rune('0'+i)), el(1, 1, 1)...))
	}
	return t
}

type mayTest struct {
	what string
	t    api.Table
	want bool
}

// checkMay asks May, and Elements, which refuses what may not be.
func checkMay(t *testing.T, tests []mayTest) {
	t.Helper()
	for _, x := range tests {
		if got := May(x.t); got != x.want {
			t.Errorf("May of %s: %v, want %v", x.what, got, x.want)
		}
		want := api.OK
		if !x.want {
			want = api.ErrTable
		}
		if got, e := Elements(x.t, nil); len(got) != 0 || e != want {
			t.Errorf("Elements by %s: %v, %v, want %v", x.what, got, e, want)
		}
	}
}

func TestP3_1MayOfLoreAndTop(t *testing.T) {
	fallen := sample()
	slices.Reverse(fallen.Lore)
	var tall []api.Lore
	for i := range rune(api.MaxRows + 1) {
		tall = append(tall, api.Lore{R: i, Class: 1})
	}
	checkMay(t, []mayTest{
		{"nothing", api.Table{}, true},
		{"empty lists", api.Table{Lore: []api.Lore{}, Rows: []api.Row{}}, true},
		{"the sample", sample(), true},
		{"a lore alone", api.Table{Lore: marks()}, true},
		{"MaxRows of lore", api.Table{Lore: tall[:api.MaxRows]}, true},
		{"one more of lore", api.Table{Lore: tall}, false},
		{"a lore that falls", fallen, false},
		{"a lore of class 255", api.Table{Lore: []api.Lore{{R: 'a', Class: 255}}, Rows: many(1).Rows}, false},
		{"Top 1", api.Table{Top: 1}, true},
		{"Top 60000", api.Table{Top: 60000, Rows: many(1).Rows}, true},
		{"Top 60001", api.Table{Top: 60001, Rows: many(1).Rows}, false},
		{"Top -1", api.Table{Top: -1, Rows: many(1).Rows}, false},
		{"Top far above", api.Table{Top: 1 << 62}, false},
		{"Shifted", api.Table{Top: 60000, Shifted: true, Rows: many(1).Rows}, true},
		{"Shifted, Top 60001", api.Table{Top: 60001, Shifted: true}, false},
	})
}

func TestP3_1MayOfRows(t *testing.T) {
	checkMay(t, []mayTest{
		{"MaxRows", many(api.MaxRows), true},
		{"one more than MaxRows", many(api.MaxRows + 1), false},

		{"rows that rise", rows(of("a"), of("b"), of("c")), true},
		{"a row twice", rows(of("a"), of("a")), false},
		{"a row twice, of other weights", rows(of("a", el(1, 1, 1)...), of("a", el(2, 1, 1)...)), false},
		{"a longer row twice", rows(of("a"), of("ab"), of("ab")), false},
		{"rows that fall", rows(of("b"), of("a")), false},
		{"a last row that falls", rows(of("a"), of("c"), of("b")), false},
		{"a beginning ahead", rows(of("a"), of("ab"), of("abc"), of("ac"), of("b")), true},
		{"a beginning behind", rows(of("ab"), of("a")), false},
		{"a beginning of two behind", rows(of("a"), of("abc"), of("ab")), false},
		{"a shorter row ahead that is above", rows(of("a"), of("b"), of("ab")), false},
		{"second runes that fall", rows(of("a"), of("ac"), of("ab")), false},
		{"third runes that fall", rows(of("a"), of("abd"), of("abc")), false},
		{"longer ahead of shorter, by a rune", rows(of("a"), of("abc"), of("ac")), true},
		{"high runes behind low ones", rows(of("\uffff"), of("\U00010000")), true},

		{"no rune", rows(api.Row{To: el(1, 1, 1)}), false},
		{"no rune ahead of a row", rows(api.Row{}, of("a")), false},
		{"three runes", rows(of("a"), of("abc")), true},
		{"four runes", rows(of("a"), of("abcd")), false},
		{"four runes, all beginnings there", rows(of("a"), of("ab"), of("abc"), of("abcd")), false},
		{"one rune thrice", rows(of("a"), of("aa"), of("aaa")), true},

		{"two runes, the first not there", rows(of("ab")), false},
		{"three runes, the first not there", rows(of("abc")), false},
		{"three runes, two of them there, the first not", rows(of("ab"), of("abc")), false},
		{"the second alone there", rows(of("ab"), of("b")), false},
		{"two runes, the first not there, behind others", rows(of("a"), of("ab"), of("cd")), false},
	})
}

func TestP3_1MayOfRunes(t *testing.T) {
	row := func(l ...rune) api.Row { return api.Row{Of: l} }
	plain := []api.Lore{{R: 'x', To: []rune{'y', 'z'}}, {R: 0x301, Class: 230}}
	by := func(l ...api.Row) api.Table { return api.Table{Lore: plain, Rows: l} }
	checkMay(t, []mayTest{
		{"the edges", rows(row(0), row(0xd7ff), row(0xe000), row(0x10ffff)), true},
		{"the edges behind another", rows(row('a'), row('a', 0), row('a', 0, 0xd7ff), row('a', 0xe000, 0x10ffff)), true},
		{"a rune below 0", rows(row(-1)), false},
		{"a surrogate", rows(row(0xd800)), false},
		{"the last surrogate", rows(row(0xdfff)), false},
		{"a rune above U+10FFFF", rows(row(0x110000)), false},
		{"a second rune below 0", rows(row('a'), row('a', -1)), false},
		{"a second rune that is a surrogate", rows(row('a'), row('a', 0xd800)), false},
		{"a third rune above U+10FFFF", rows(row('a'), row('a', 'b', 0x110000)), false},

		{"a rune that has a To", by(row('x')), false},
		{"a second rune that has a To", by(row('a'), row('a', 'x')), false},
		{"a third rune that has a To", by(row('a'), row('a', 'b', 'x')), false},
		{"runes of a To", by(row('y'), row('y', 'z'), row('z')), true},
		{"a rune of a class", by(row('a'), row('a', 0x301), row(0x301)), true},
		{"a rune that has a class and a To", api.Table{Lore: []api.Lore{{R: 'b', Class: 7, To: []rune{'c'}}}, Rows: []api.Row{row('b')}}, false},
		{"marks that do not stand so", api.Table{Lore: marks(), Rows: []api.Row{row(0x301), row(0x301, 0x323)}}, true},
	})
}

func TestP3_1MayOfElements(t *testing.T) {
	a := func(weights ...int) api.Table { return rows(of("a", el(weights...)...)) }
	checkMay(t, []mayTest{
		{"no element", a(), true},
		{"four elements", a(1, 1, 1, 2, 2, 2, 3, 3, 3, 4, 4, 4), true},
		{"five elements", a(1, 1, 1, 2, 2, 2, 3, 3, 3, 4, 4, 4, 5, 5, 5), false},
		{"all noughts", a(0, 0, 0), true},
		{"T alone", a(0, 0, 1), true},
		{"S and T", a(0, 1, 1), true},
		{"P, S and T", a(1, 1, 1), true},
		{"the greatest", a(60000, 200, 200), true},
		{"four of the greatest", a(60000, 200, 200, 60000, 200, 200, 60000, 200, 200, 60000, 200, 200), true},
		{"P 60001", a(60001, 200, 200), false},
		{"S 201", a(60000, 201, 200), false},
		{"T 201", a(60000, 200, 201), false},
		{"S 201, P 0", a(0, 201, 1), false},
		{"T 201 alone", a(0, 0, 201), false},
		{"P -1", a(-1, 1, 1), false},
		{"S -1", a(0, -1, 1), false},
		{"T -1", a(0, 0, -1), false},
		{"P without S", a(1, 0, 1), false},
		{"P without T", a(1, 1, 0), false},
		{"P alone", a(1, 0, 0), false},
		{"S without T", a(0, 1, 0), false},
		{"P below nothing", a(-1<<62, 1, 1), false},
		{"a wrong second element", a(1, 1, 1, 1, 0, 1), false},
		{"a wrong fourth element", a(1, 1, 1, 0, 0, 0, 0, 0, 1, 0, 1, 0), false},
		{"a wrong last row", rows(of("a", el(1, 1, 1)...), of("b", el(60001, 1, 1)...)), false},
		{"a wrong first row", rows(of("a", el(1, 1, 0)...), of("b", el(1, 1, 1)...)), false},
	})
}

func TestP3_2Implied(t *testing.T) {
	tests := []struct {
		r    rune
		want [2]api.Element
	}{
		{0, [2]api.Element{{P: 64000, S: 32, T: 2}, {P: 60001}}},
		{1, [2]api.Element{{P: 64000, S: 32, T: 2}, {P: 60002}}},
		{'a', [2]api.Element{{P: 64000, S: 32, T: 2}, {P: 60098}}},
		{3998, [2]api.Element{{P: 64000, S: 32, T: 2}, {P: 63999}}},
		{3999, [2]api.Element{{P: 64001, S: 32, T: 2}, {P: 60001}}},
		{4000, [2]api.Element{{P: 64001, S: 32, T: 2}, {P: 60002}}},
		{7998, [2]api.Element{{P: 64002, S: 32, T: 2}, {P: 60001}}},
		{0xffff, [2]api.Element{{P: 64016, S: 32, T: 2}, {P: 61552}}},
		{0x10ffff, [2]api.Element{{P: 64278, S: 32, T: 2}, {P: 62390}}},
		{0x110000, [2]api.Element{{P: 64278, S: 32, T: 2}, {P: 62391}}}, // numbers may be any
		{1<<31 - 1, [2]api.Element{{P: 64000 + 537005, S: 32, T: 2}, {P: 60001 + 652}}},
	}
	for _, x := range tests {
		if got := Implied(x.r); got != x.want {
			t.Errorf("Implied(%#x): %v, want %v", x.r, got, x.want)
		}
	}
	for _, r := range []rune{-1, -3999, -1 << 31} {
		Implied(r) // which ends
	}
}

func TestP3_2ImpliedRises(t *testing.T) {
	was := Implied(0)
	for r := rune(1); r <= 0x10ffff; r++ {
		now := Implied(r)
		if now[0].P < was[0].P || now[0].P == was[0].P && now[1].P <= was[1].P || now[0].P > 65535 || now[1].P < 60001 {
			t.Fatalf("Implied(%#x): %v behind %v", r, now, was)
		}
		was = now
	}
}

// implied is Implied as a list.
func implied(r rune) []api.Element {
	l := Implied(r)
	return l[:]
}

type elementsTest struct {
	s    string
	want []api.Element
}

func checkElements(t *testing.T, table api.Table, tests []elementsTest) {
	t.Helper()
	for _, x := range tests {
		if got, e := Elements(table, []rune(x.s)); !slices.Equal(got, x.want) || e != api.OK {
			t.Errorf("Elements(%+q): %v, %v, want %v", x.s, got, e, x.want)
		}
	}
}

func TestP3_2ElementsOfRowsBesideOneAnother(t *testing.T) {
	checkElements(t, sample(), []elementsTest{
		{"", nil},
		{"!", nil}, // it has a row that weighs nothing
		{"a", el(10, 2, 2)},
		{"a!a", el(10, 2, 2, 10, 2, 2)},
		{"aa", el(10, 2, 2, 10, 2, 2)},
		{"c", el(20, 2, 2)},
		{"ca", el(20, 2, 2, 10, 2, 2)},
		{"ch", el(21, 2, 2, 22, 2, 3)},
		{"cha", el(23, 2, 2)}, // the longest row
		{"chcha", el(21, 2, 2, 22, 2, 3, 23, 2, 2)},
		{"cc", el(20, 2, 2, 20, 2, 2)},
		{"h", implied('h')},
		{"hh", slices.Concat(implied('h'), implied('h'))},
		{"ah", slices.Concat(el(10, 2, 2), implied('h'))},
		{"ha", slices.Concat(implied('h'), el(10, 2, 2))},
		{"\x00\U0010ffff", slices.Concat(implied(0), implied(0x10ffff))},
		{"\u00e9", el(30, 2, 2, 0, 31, 2)}, // taken apart
		{"e\u0301", el(30, 2, 2, 0, 31, 2)},
		{"\u0308", el(0, 0, 32)},
		{"\u0324", implied(0x324)},
		{"h\u0301", slices.Concat(implied('h'), el(0, 31, 2))}, // what has no row takes nothing with it
		{"a\u0301", el(11, 2, 2)},
		{"a\u0301\u0308", el(12, 2, 2)},
		{"a\u0327\u0301", el(15, 2, 2)},
		{"\u0323\u0301", el(0, 34, 2)},
		{"\u0301\u0323", el(0, 34, 2)}, // ordered ahead
	})
}

// U+0327, U+0323 and U+0301 are of three classes, U+0324 of that of U+0323, U+0308 of that of U+0301.
func TestP3_2ElementsOfRowsWithOthersBetween(t *testing.T) {
	u324, u327 := implied(0x324), implied(0x327)
	checkElements(t, sample(), []elementsTest{
		{"a\u0324\u0301", slices.Concat(el(11, 2, 2), u324)},                     // one is passed over
		{"a\u0301\u0324", slices.Concat(el(11, 2, 2), u324)},                     // the same, ordered
		{"a\u0327\u0323", slices.Concat(el(13, 2, 2), u327)},                     // from the nearest on
		{"a\u0327\u0324\u0301", slices.Concat(el(11, 2, 2), u327, u324)},         // two are passed over
		{"a\u0308\u0301", el(10, 2, 2, 0, 0, 32, 0, 31, 2)},                      // blocked by one of its class
		{"a\u0324\u0323", slices.Concat(el(10, 2, 2), u324, el(0, 33, 2))},       // blocked, too
		{"a\u0324\u0323\u0301", slices.Concat(el(11, 2, 2), u324, el(0, 33, 2))}, // one is blocked, the one behind it not
		{"a\u0324\u0308\u0301", slices.Concat(el(10, 2, 2), u324, el(0, 0, 32, 0, 31, 2))},
		{"a\u0324\u0301\u0308", slices.Concat(el(12, 2, 2), u324)}, // what is taken blocks none, and makes the row longer
		{"a\u0323\u0324\u0301", slices.Concat(el(14, 2, 2), u324)}, // for a row of two runes
		{"a\u0327\u0323\u0301", slices.Concat(el(14, 2, 2), u327)}, // one rune more a time: the row a U+0327 U+0301 is not found
		{"a\u0327\u0324\u0323\u0301", slices.Concat(el(11, 2, 2), u327, u324, el(0, 33, 2))},
		{"a\u0327\u0324\u0323\u0301\u0301", slices.Concat(el(11, 2, 2), u327, u324, el(0, 34, 2))},
		{"a\u0323\u0301\u0301", el(14, 2, 2, 0, 31, 2)}, // a row of three takes no more
		{"a\u0301\u0301", el(11, 2, 2, 0, 31, 2)},
		{"a\u0324h\u0301", slices.Concat(el(10, 2, 2), u324, implied('h'), el(0, 31, 2))}, // up to the first rune of class 0
		{"ah\u0301", slices.Concat(el(10, 2, 2), implied('h'), el(0, 31, 2))},
		{"aa\u0301", el(10, 2, 2, 11, 2, 2)},
		{"c\u0324h", slices.Concat(el(20, 2, 2), u324, implied('h'))},      // h has no class: it is not taken
		{"e\u0324\u0301", slices.Concat(el(30, 2, 2), u324, el(0, 31, 2))}, // there is no such row
		{"\u0323\u0324\u0301", slices.Concat(el(0, 34, 2), u324)},          // a row of marks takes one, too
		{"a\u0324\u0301a\u0324\u0301", slices.Concat(el(11, 2, 2), u324, el(11, 2, 2), u324)},
	})
}

// What a row took from further on is gone: those beside it stand together then.
func TestP3_2ElementsOfWhatIsLeft(t *testing.T) {
	table := api.Table{Lore: marks(), Rows: []api.Row{
		of("a", el(1, 1, 1)...),
		of("a\u0323", el(2, 1, 1)...),
		of("a\u0323\u0301", el(3, 1, 1)...),
		of("\u0308", el(0, 4, 1)...),
		of("\u0308b", el(0, 5, 1)...),
		of("\u0327", el(0, 6, 1)...),
		of("\u0327b", el(0, 7, 1)...),
		of("\u0327\u0301", el(0, 8, 1)...),
		of("\u0327\u0308", el(0, 9, 1)...),
	}}
	checkElements(t, table, []elementsTest{
		{"a\u0327\u0323", el(2, 1, 1, 0, 6, 1)},
		{"a\u0327\u0323b", el(2, 1, 1, 0, 7, 1)},
		{"a\u0327\u0323\u0301", el(3, 1, 1, 0, 6, 1)},
		{"a\u0327\u0323\u0301b", el(3, 1, 1, 0, 7, 1)},
		{"a\u0327\u0323\u0301\u0301", el(3, 1, 1, 0, 8, 1)},
		{"a\u0327\u0323\u0301\u0308b", slices.Concat(el(3, 1, 1, 0, 9, 1), implied('b'))},
		{"a\u0327\u0324\u0323\u0308", slices.Concat(el(1, 1, 1, 0, 9, 1), implied(0x324), implied(0x323))},
	})
}

func TestP3_2ElementsRefuses(t *testing.T) {
	tests := []struct {
		t    api.Table
		s    []rune
		want api.Errno
	}{
		{sample(), []rune{-1}, api.ErrText},
		{sample(), []rune{0xd800}, api.ErrText},
		{sample(), []rune{0xdfff}, api.ErrText},
		{sample(), []rune{0x110000}, api.ErrText},
		{sample(), []rune{'a', 'c', 'h', 1<<31 - 1}, api.ErrText},
		{sample(), []rune{'a', -1 << 31, 'a'}, api.ErrText},
		{api.Table{}, []rune{'a', 0xd800}, api.ErrText},
		{rows(of("ab")), []rune{'a'}, api.ErrTable},
		{rows(of("ab")), []rune{-1}, api.ErrTable}, // ahead of ErrText
		{api.Table{Top: -1}, []rune{0xd800}, api.ErrTable},
		{api.Table{Lore: []api.Lore{{R: 'a'}}}, []rune{0xd800}, api.ErrTable},
		{many(api.MaxRows + 1), []rune{'a'}, api.ErrTable},
	}
	for i, x := range tests {
		if got, e := Elements(x.t, x.s); len(got) != 0 || e != x.want {
			t.Errorf("Elements %d: %v, %v, want %v and nothing", i, got, e, x.want)
		}
	}
}

// plainRow looks for the row of runes from the first row on.
func plainRow(t api.Table, runes []rune) (api.Row, bool) {
	for _, x := range t.Rows {
		if slices.Equal(x.Of, runes) {
			return x, true
		}
	}
	return api.Row{}, false
}

// plainElements is the promise word by word, on a list from which what is taken is cut.
func plainElements(t api.Table, s []rune) []api.Element {
	rest, _ := lore.Normal(t.Lore, s)
	var out []api.Element
	for len(rest) > 0 {
		n := min(3, len(rest))
		row, found := plainRow(t, rest[:n])
		for n > 1 && !found {
			n--
			row, found = plainRow(t, rest[:n])
		}
		first := rest[0]
		rest = slices.Clone(rest[n:])
		if !found {
			out = append(out, implied(first)...)
			continue
		}
		row, rest = plainTake(t, row, rest)
		out = append(out, row.To...)
	}
	return out
}

func plainTake(t api.Table, row api.Row, rest []rune) (api.Row, []rune) {
	for i := 0; i < len(rest) && lore.Class(t.Lore, rest[i]) > 0; {
		longer, found := plainRow(t, slices.Concat(row.Of, rest[i:i+1]))
		blocked := slices.ContainsFunc(rest[:i], func(r rune) bool {
			class := lore.Class(t.Lore, r)
			return class == 0 || class >= lore.Class(t.Lore, rest[i])
		})
		if found && !blocked {
			row, rest = longer, slices.Delete(rest, i, i+1)
		} else {
			i++
		}
	}
	return row, rest
}

// eachText shows see each text of some runes that is at most so long.
func eachText(most int, some []rune, see func(s []rune)) {
	texts := [][]rune{nil}
	for range most + 1 {
		var longer [][]rune
		for _, s := range texts {
			see(s)
			for _, r := range some {
				longer = append(longer, append(slices.Clone(s), r))
			}
		}
		texts = longer
	}
}

func checkPlain(t *testing.T, table api.Table, s []rune) {
	t.Helper()
	got, e := Elements(table, s)
	if want := plainElements(table, s); !slices.Equal(got, want) || e != api.OK {
		t.Fatalf("Elements(%+q): %v, %v, want %v", string(s), got, e, want)
	}
}

func TestP3_2ElementsOfAllShortTexts(t *testing.T) {
	table := sample()
	eachText(5, []rune{'a', 0xe9, 0x301, 0x308, 0x323, 0x324, 0x327}, func(s []rune) { checkPlain(t, table, s) })
	eachText(5, []rune{'a', 'c', 'h', '!', 0x301, 0x323}, func(s []rune) { checkPlain(t, table, s) })
}

// tables makes tables of all choices from some rows behind a, so that rows of three stand without those of two, too.
func tables() []api.Table {
	some := []string{"a\u0301", "a\u0301\u0308", "a\u0301\u0323", "a\u0323", "a\u0323\u0301", "a\u0323\u0324", "aa", "\u0323\u0301"}
	var out []api.Table
	for choice := range 1 << len(some) {
		l := []api.Row{of("a", el(1, 1, 1)...), of("\u0323", el(2, 1, 1)...)}
		for i, text := range some {
			if choice>>i&1 == 1 {
				l = append(l, of(text, el(10+i, 1, 1)...))
			}
		}
		slices.SortFunc(l, func(a, b api.Row) int { return slices.Compare(a.Of, b.Of) })
		out = append(out, api.Table{Lore: marks(), Rows: l})
	}
	return out
}

func TestP3_2ElementsOfManyTables(t *testing.T) {
	for _, table := range tables() {
		eachText(4, []rune{'a', 0x301, 0x308, 0x323, 0x324}, func(s []rune) { checkPlain(t, table, s) })
	}
}

func TestP3_2EachRowStands(t *testing.T) {
	table := many(api.MaxRows)
	for i := range table.Rows {
		table.Rows[i].To = el(1+i, 1, 1)
	}
	for i, x := range table.Rows {
		if got, e := Elements(table, x.Of); !slices.Equal(got, el(1+i, 1, 1)) || e != api.OK {
			t.Errorf("Elements(%q): %v, %v", string(x.Of), got, e)
		}
	}
	for _, r := range []rune{'0' - 1, '0' + api.MaxRows} {
		if got, e := Elements(table, []rune{r}); !slices.Equal(got, implied(r)) || e != api.OK {
			t.Errorf("Elements(%q): %v, %v", string(r), got, e)
		}
	}
}

// Each row of a mark passes over all those of its class, and takes one from behind them.
func TestP3_2ElementsEndSoonWithMuch(t *testing.T) {
	const many = 1 << 15
	s := []rune{'a'}
	for range many {
		s = append(s, 0x323, 0x324, 0x301)
	}
	want := append(el(14, 2, 2), implied(0x324)...)
	for range many - 1 {
		want = append(append(want, el(0, 34, 2)...), implied(0x324)...)
	}
	if got, e := Elements(sample(), s); !slices.Equal(got, want) || e != api.OK {
		t.Errorf("Elements of much: %d of them, %v, want %d", len(got), e, len(want))
	}
}

// cloned copies a table with all its lists.
func cloned(t api.Table) api.Table {
	t.Lore, t.Rows = slices.Clone(t.Lore), slices.Clone(t.Rows)
	for i := range t.Lore {
		t.Lore[i].To = slices.Clone(t.Lore[i].To)
	}
	for i := range t.Rows {
		t.Rows[i].Of, t.Rows[i].To = slices.Clone(t.Rows[i].Of), slices.Clone(t.Rows[i].To)
	}
	return t
}

// same tells whether two tables are the same in all their lists.
func same(a, b api.Table) bool {
	known := slices.EqualFunc(a.Lore, b.Lore, func(a, b api.Lore) bool {
		return a.R == b.R && a.Class == b.Class && slices.Equal(a.To, b.To)
	})
	return known && a.Top == b.Top && a.Shifted == b.Shifted && slices.EqualFunc(a.Rows, b.Rows, func(a, b api.Row) bool {
		return slices.Equal(a.Of, b.Of) && slices.Equal(a.To, b.To)
	})
}

// spare answers the list with room behind it that is filled, as part of which it may be handed in.
func spare[T any](l []T, more ...T) ([]T, []T) {
	all := append(slices.Clone(l), more...)
	return all[:len(l)], all
}

func TestR4LeavesWhatIsHandedIn(t *testing.T) {
	table := cloned(sample())
	var runes [][]rune
	var weights [][]api.Element
	for i := range table.Rows {
		x := &table.Rows[i]
		var all []rune
		x.Of, all = spare(x.Of, 'q', 'q', 'q')
		runes = append(runes, all)
		var to []api.Element
		x.To, to = spare(x.To, el(9, 9, 9, 9, 9, 9)...)
		weights = append(weights, to)
	}
	text := []rune("a\u0327\u0324\u0323\u0301x\u00e9\u0323\u0301chab")
	s, all := spare(text, 'y', 'z')
	May(table)
	Elements(table, s)
	if !same(table, sample()) {
		t.Errorf("a table was changed: %v", table)
	}
	if !slices.Equal(all, append(slices.Clone(text), 'y', 'z')) {
		t.Errorf("a text was changed: %x", all)
	}
	for i := range runes {
		if !slices.Equal(runes[i][len(table.Rows[i].Of):], []rune("qqq")) || !slices.Equal(weights[i][len(table.Rows[i].To):], el(9, 9, 9, 9, 9, 9)) {
			t.Errorf("what is behind row %d was changed: %x, %v", i, runes[i], weights[i])
		}
	}
}

func TestR4AnswersNewMemory(t *testing.T) {
	table := sample()
	for _, text := range []string{"a", "ch", "a\u0324\u0301", "h", "cha"} {
		want, _ := Elements(table, []rune(text))
		want = slices.Clone(want)
		out, _ := Elements(table, []rune(text))
		out = out[:cap(out)]
		for i := range out {
			out[i] = api.Element{P: -1, S: -1, T: -1}
		}
		if got, e := Elements(table, []rune(text)); !slices.Equal(got, want) || e != api.OK {
			t.Errorf("Elements(%+q): %v, %v, want %v", text, got, e, want)
		}
	}
	if !same(table, sample()) {
		t.Errorf("an answer shares memory with the table: %v", table)
	}
}
