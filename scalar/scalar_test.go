package scalar

import (
	"slices"
	"testing"

	"gazetteer/api"
)

// form is a row of Unicode's table of well-formed byte sequences: a first byte, a second one (if there is one), and how many more from 0x80 to 0xbf.
type form struct {
	low, high             byte
	secondLow, secondHigh byte
	size                  int
}

func forms() []form {
	return []form{
		{0x00, 0x7f, 0, 0, 1},
		{0xc2, 0xdf, 0x80, 0xbf, 2},
		{0xe0, 0xe0, 0xa0, 0xbf, 3},
		{0xe1, 0xec, 0x80, 0xbf, 3},
		{0xed, 0xed, 0x80, 0x9f, 3},
		{0xee, 0xef, 0x80, 0xbf, 3},
		{0xf0, 0xf0, 0x90, 0xbf, 4},
		{0xf1, 0xf3, 0x80, 0xbf, 4},
		{0xf4, 0xf4, 0x80, 0x8f, 4},
	}
}

// wellFormed tells by that table whether s is UTF-8.
func wellFormed(s string) bool {
	for len(s) > 0 {
		size := firstSize(s)
		if size == 0 {
			return false
		}
		s = s[size:]
	}
	return true
}

func firstSize(s string) int {
	for _, f := range forms() {
		if s[0] < f.low || s[0] > f.high || len(s) < f.size {
			continue
		}
		if f.size > 1 && (s[1] < f.secondLow || s[1] > f.secondHigh) {
			return 0
		}
		for i := 2; i < f.size; i++ {
			if s[i] < 0x80 || s[i] > 0xbf {
				return 0
			}
		}
		return f.size
	}
	return 0
}

// encode writes one rune by shifting its bits.
func encode(r rune) string {
	switch {
	case r < 0x80:
		return string([]byte{byte(r)})
	case r < 0x800:
		return string([]byte{0xc0 | byte(r>>6), 0x80 | byte(r&0x3f)})
	case r < 0x10000:
		return string([]byte{0xe0 | byte(r>>12), 0x80 | byte(r>>6&0x3f), 0x80 | byte(r&0x3f)})
	}
	return string([]byte{0xf0 | byte(r>>18), 0x80 | byte(r>>12&0x3f), 0x80 | byte(r>>6&0x3f), 0x80 | byte(r&0x3f)})
}

func TestP1_1MayAtItsEdges(t *testing.T) {
	tests := []struct {
		r    rune
		want bool
	}{
		{-1 << 31, false}, {-1, false}, {0, true}, {'a', true}, {0x7f, true}, {0x80, true},
		{0xd7ff, true}, {0xd800, false}, {0xdbff, false}, {0xdc00, false}, {0xdfff, false}, {0xe000, true},
		{0xfffd, true}, {0xffff, true}, {0x10000, true}, {0x10ffff, true}, {0x110000, false}, {1<<31 - 1, false},
	}
	for _, x := range tests {
		if got := May(x.r); got != x.want {
			t.Errorf("May(%#x): %v, want %v", x.r, got, x.want)
		}
	}
}

func TestP1_1EachRuneThereAndBack(t *testing.T) {
	for r := rune(-0x100); r <= 0x110100; r++ {
		may := r >= 0 && r <= 0x10ffff && (r < 0xd800 || r > 0xdfff)
		if May(r) != may {
			t.Fatalf("May(%#x): %v", r, !may)
		}
		s, e := Write([]rune{r})
		if !may {
			if s != "" || e != api.ErrText {
				t.Fatalf("Write(%#x): %q, %v, want ErrText and nothing", r, s, e)
			}
			continue
		}
		if s != encode(r) || e != api.OK {
			t.Fatalf("Write(%#x): %q, %v, want %q", r, s, e, encode(r))
		}
		if l, e := Read(encode(r)); !slices.Equal(l, []rune{r}) || e != api.OK {
			t.Fatalf("Read(%q): %x, %v, want %x", encode(r), l, e, r)
		}
	}
}

func TestP1_1ReadWhatIsUTF8(t *testing.T) {
	tests := []struct {
		s    string
		want []rune
	}{
		{"", nil},
		{"a", []rune{'a'}},
		{"é", []rune{0xe9}},
		{"e\u0301", []rune{'e', 0x301}},
		{"a\u00e9\u20ac\U0001f600z", []rune{'a', 0xe9, 0x20ac, 0x1f600, 'z'}},
		{"\x00\n\x00", []rune{0, '\n', 0}},
		{"\xef\xbf\xbd", []rune{0xfffd}},
		{"\xef\xbb\xbfa", []rune{0xfeff, 'a'}},
		{"\xed\x9f\xbf\xee\x80\x80", []rune{0xd7ff, 0xe000}},
		{"\xf4\x8f\xbf\xbf", []rune{0x10ffff}},
	}
	for _, x := range tests {
		if l, e := Read(x.s); !slices.Equal(l, x.want) || e != api.OK {
			t.Errorf("Read(%q): %x, %v, want %x", x.s, l, e, x.want)
		}
		if s, e := Write(x.want); s != x.s || e != api.OK {
			t.Errorf("Write(%x): %q, %v, want %q", x.want, s, e, x.s)
		}
	}
}

func TestP1_1ReadRefuses(t *testing.T) {
	tests := []string{
		"\x80", "\xbf", "\xff", "\xfe", // no first byte
		"\xc0\x80", "\xc1\xbf", "\xe0\x80\x80", "\xe0\x9f\xbf", "\xf0\x80\x80\x80", "\xf0\x8f\xbf\xbf", // no shortest form
		"\xed\xa0\x80", "\xed\xbf\xbf", "\xed\xa0\x80\xed\xb0\x80", // surrogates, a pair of them
		"\xf4\x90\x80\x80", "\xf5\x80\x80\x80", "\xf8\x88\x80\x80\x80", // above U+10FFFF
		"\xc3", "\xe2\x82", "\xf0\x9f\x98", // cut off
		"a\xc3", "a\xc3b", "abc\xff", "\xffabc", "é\x80", "\xef\xbf\xbd\xff", "\xe2\x82a",
	}
	for _, s := range tests {
		if l, e := Read(s); len(l) != 0 || e != api.ErrText {
			t.Errorf("Read(%q): %x, %v, want ErrText and nothing", s, l, e)
		}
	}
}

// checkRead holds Read against the table of forms, and Write against Read.
func checkRead(t *testing.T, s string) {
	t.Helper()
	l, e := Read(s)
	if !wellFormed(s) {
		if len(l) != 0 || e != api.ErrText {
			t.Fatalf("Read(%q): %x, %v, want ErrText and nothing", s, l, e)
		}
		return
	}
	if e != api.OK {
		t.Fatalf("Read(%q): %v", s, e)
	}
	if back, e := Write(l); back != s || e != api.OK {
		t.Fatalf("Write(%x): %q, %v, want %q", l, back, e, s)
	}
}

func TestP1_1ReadOfAllShortBytes(t *testing.T) {
	edges := []byte{0x00, 0x7f, 0x80, 0x8f, 0x90, 0x9f, 0xa0, 0xbf, 0xc0, 0xc2, 0xff}
	for a := range 256 {
		checkRead(t, string([]byte{byte(a)}))
		for b := range 256 {
			checkRead(t, string([]byte{byte(a), byte(b)}))
			for _, c := range edges {
				checkRead(t, string([]byte{byte(a), byte(b), c}))
			}
		}
		for _, b := range edges {
			for _, c := range edges {
				for _, d := range edges {
					checkRead(t, string([]byte{byte(a), b, c, d}))
					checkRead(t, string([]byte{byte(a), b, c, d, 'a'}))
				}
			}
		}
	}
}

func TestP1_1WriteRefuses(t *testing.T) {
	tests := [][]rune{
		{-1}, {0xd800}, {0xdfff}, {0x110000}, {1<<31 - 1}, {-1 << 31},
		{'a', 0xd800}, {0xd800, 'a'}, {'a', -1, 'b'}, {0xd83d, 0xde00}, {0xfffd, 0x110000},
	}
	for _, l := range tests {
		if s, e := Write(l); s != "" || e != api.ErrText {
			t.Errorf("Write(%x): %q, %v, want ErrText and nothing", l, s, e)
		}
	}
}

func TestP1_1WriteLeavesItsList(t *testing.T) {
	all := []rune{'a', 0xe9, 0x1f600, 'x', 'y'}
	if s, e := Write(all[:3]); s != "a\u00e9\U0001f600" || e != api.OK {
		t.Errorf("Write: %q, %v", s, e)
	}
	if s, e := Write(nil); s != "" || e != api.OK {
		t.Errorf("Write(nil): %q, %v", s, e)
	}
	if !slices.Equal(all, []rune{'a', 0xe9, 0x1f600, 'x', 'y'}) {
		t.Errorf("Write changed its list: %x", all)
	}
}

func TestP1_1ReadAnswersNewMemory(t *testing.T) {
	const text = "a\u00e9\u20ac"
	a, _ := Read(text)
	b, _ := Read(text)
	for i := range a[:cap(a)] {
		a[:cap(a)][i] = 'x'
	}
	if c, _ := Read(text); !slices.Equal(b, c) || !slices.Equal(c, []rune{'a', 0xe9, 0x20ac}) {
		t.Errorf("what one Read answered is shared: %x, %x", b, c)
	}
}

func TestP1_1CompareByBytes(t *testing.T) {
	rising := []string{
		"", "\x00", "\x00\x00", "\x00a", "A", "a", "a\x00", "aa", "ab", "b", "\x7f",
		"\x80", "\xc3", "\u00e9", "\u00e9a", "\uffff", "\U00010000", "\U0010ffff", "\xfe", "\xfe\xff", "\xff", "\xff\x00",
	}
	for i, a := range rising {
		for j, b := range rising {
			want := 0
			if i < j {
				want = -1
			} else if i > j {
				want = 1
			}
			if got := Compare(a, b); got != want {
				t.Errorf("Compare(%q, %q): %d, want %d", a, b, got, want)
			}
		}
	}
}
