package lore

import (
	"slices"
	"testing"

	"gazetteer/api"
)

// sample is a lore with marks of some classes and runes that are taken apart: é to e U+0301, ö to o U+0308, U+1E14 to E U+0304 U+0300; U+0344, a mark that is two marks itself.
func sample() []api.Lore {
	return []api.Lore{
		{R: 0xe9, To: []rune{'e', 0x301}},
		{R: 0xf6, To: []rune{'o', 0x308}},
		{R: 0x300, Class: 230},
		{R: 0x301, Class: 230},
		{R: 0x304, Class: 230},
		{R: 0x308, Class: 230},
		{R: 0x323, Class: 220},
		{R: 0x327, Class: 202},
		{R: 0x344, Class: 230, To: []rune{0x308, 0x301}},
		{R: 0x345, Class: 240},
		{R: 0x1e14, To: []rune{'E', 0x304, 0x300}},
	}
}

// marks makes so many rows of class 1, from the rune U+0300 on.
func marks(many int) []api.Lore {
	l := make([]api.Lore, many)
	for i := range l {
		l[i] = api.Lore{R: 0x300 + rune(i), Class: 1}
	}
	return l
}

func TestP2_1May(t *testing.T) {
	to := func(l ...rune) []rune { return l }
	tests := []struct {
		what string
		l    []api.Lore
		want bool
	}{
		{"nil", nil, true},
		{"no rows", []api.Lore{}, true},
		{"the sample", sample(), true},
		{"MaxRows", marks(api.MaxRows), true},
		{"one more than MaxRows", marks(api.MaxRows + 1), false},

		{"class 1, no To", []api.Lore{{R: 'a', Class: 1}}, true},
		{"class 254, no To", []api.Lore{{R: 'a', Class: 254}}, true},
		{"class 255, no To", []api.Lore{{R: 'a', Class: 255}}, false},
		{"class 0, no To", []api.Lore{{R: 'a'}}, false},
		{"class 0, an empty To", []api.Lore{{R: 'a', To: to()}}, false},
		{"class 1, an empty To", []api.Lore{{R: 'a', Class: 1, To: to()}}, true},
		{"class -1, no To", []api.Lore{{R: 'a', Class: -1}}, false},
		{"class 0, a To", []api.Lore{{R: 'a', To: to('b')}}, true},
		{"class 254, a To", []api.Lore{{R: 'a', Class: 254, To: to('b')}}, true},
		{"class 255, a To", []api.Lore{{R: 'a', Class: 255, To: to('b')}}, false},
		{"class -1, a To", []api.Lore{{R: 'a', Class: -1, To: to('b')}}, false},
		{"a wrong class behind one that may be", []api.Lore{{R: 'a', Class: 1}, {R: 'b', Class: 1 << 40}}, false},

		{"a To of two", []api.Lore{{R: 'a', To: to('b', 'c')}}, true},
		{"a To of three", []api.Lore{{R: 'a', To: to('b', 'c', 'd')}}, true},
		{"a To of four", []api.Lore{{R: 'a', To: to('b', 'c', 'd', 'e')}}, false},
		{"a rune twice in a To", []api.Lore{{R: 'a', To: to('b', 'b', 'b')}}, true},
		{"a surrogate in a To", []api.Lore{{R: 'a', To: to('b', 0xd800)}}, false},
		{"below 0 in a To", []api.Lore{{R: 'a', To: to(-1)}}, false},
		{"above U+10FFFF in a To", []api.Lore{{R: 'a', To: to('b', 'c', 0x110000)}}, false},
		{"the edges in a To", []api.Lore{{R: 'a', To: to(0, 0xd7ff, 0x10ffff)}}, true},

		{"the edges of runes", []api.Lore{{R: 0, Class: 1}, {R: 0xd7ff, Class: 1}, {R: 0xe000, Class: 1}, {R: 0x10ffff, Class: 1}}, true},
		{"below 0", []api.Lore{{R: -1, Class: 1}}, false},
		{"a surrogate", []api.Lore{{R: 0xd800, Class: 1}}, false},
		{"the last surrogate", []api.Lore{{R: 0xdfff, Class: 1}}, false},
		{"above U+10FFFF", []api.Lore{{R: 0x110000, Class: 1}}, false},

		{"runes rise", []api.Lore{{R: 'a', Class: 1}, {R: 'b', Class: 1}, {R: 'c', Class: 1}}, true},
		{"a rune twice", []api.Lore{{R: 'a', Class: 1}, {R: 'a', Class: 1}}, false},
		{"runes fall", []api.Lore{{R: 'b', Class: 1}, {R: 'a', Class: 1}}, false},
		{"the last rune falls", []api.Lore{{R: 'a', Class: 1}, {R: 'c', Class: 1}, {R: 'b', Class: 1}}, false},

		{"a To is itself", []api.Lore{{R: 'a', To: to('a')}}, false},
		{"a To that has a To behind", []api.Lore{{R: 'a', To: to('b')}, {R: 'b', To: to('c')}}, false},
		{"a To that has a To ahead", []api.Lore{{R: 'b', To: to('z')}, {R: 'c', To: to('d', 'e', 'b')}}, false},
		{"Tos of each other", []api.Lore{{R: 'a', To: to('b')}, {R: 'b', To: to('a')}}, false},
		{"a To that has a class alone", []api.Lore{{R: 'a', To: to('b', 'c')}, {R: 'b', Class: 7}, {R: 'c', Class: 9}}, true},
		{"two of one To", []api.Lore{{R: 'a', To: to('c')}, {R: 'b', To: to('c')}}, true},
	}
	for _, x := range tests {
		if got := May(x.l); got != x.want {
			t.Errorf("May of %s: %v, want %v", x.what, got, x.want)
		}
	}
}

func TestP2_1Class(t *testing.T) {
	l := sample()
	for _, x := range l {
		if got := Class(l, x.R); got != x.Class {
			t.Errorf("Class(%#x): %d, want %d", x.R, got, x.Class)
		}
	}
	for _, r := range []rune{-1 << 31, -1, 0, 'a', 0xe8, 0xea, 0x2ff, 0x302, 0x346, 0xd800, 0x10ffff, 0x110000, 1<<31 - 1} {
		if got := Class(l, r); got != 0 {
			t.Errorf("Class(%#x): %d, want 0", r, got)
		}
		if got := Class(nil, r); got != 0 {
			t.Errorf("Class(nil, %#x): %d, want 0", r, got)
		}
	}
}

func TestP2_1Apart(t *testing.T) {
	tests := []struct{ s, want []rune }{
		{nil, nil},
		{[]rune{}, nil},
		{[]rune{'a'}, []rune{'a'}},
		{[]rune{0xe9}, []rune{'e', 0x301}},
		{[]rune{'x', 0xe9, 0xe9, 'y'}, []rune{'x', 'e', 0x301, 'e', 0x301, 'y'}},
		{[]rune{0x1e14, 0xf6}, []rune{'E', 0x304, 0x300, 'o', 0x308}},
		{[]rune{0x301, 0x323}, []rune{0x301, 0x323}}, // not ordered yet
		{[]rune{0xe9, 0x323}, []rune{'e', 0x301, 0x323}},
		{[]rune{'a', 0x344, 0x345}, []rune{'a', 0x308, 0x301, 0x345}},
		{[]rune{-1, 0xe9, 0xd800, 0x110000}, []rune{-1, 'e', 0x301, 0xd800, 0x110000}}, // Normal alone refuses
	}
	for _, x := range tests {
		if got := Apart(sample(), x.s); !slices.Equal(got, x.want) {
			t.Errorf("Apart(%x): %x, want %x", x.s, got, x.want)
		}
		if got := Apart(nil, x.s); !slices.Equal(got, x.s) {
			t.Errorf("Apart(%x) of no lore: %x", x.s, got)
		}
	}
}

func TestP2_1Order(t *testing.T) {
	tests := []struct{ s, want []rune }{
		{nil, nil},
		{[]rune{}, nil},
		{[]rune{'a'}, []rune{'a'}},
		{[]rune{0x301}, []rune{0x301}},
		{[]rune{0x301, 0x323}, []rune{0x323, 0x301}},
		{[]rune{'a', 0x301, 0x323, 'b'}, []rune{'a', 0x323, 0x301, 'b'}},
		{[]rune{0x345, 0x301, 0x323, 0x327}, []rune{0x327, 0x323, 0x301, 0x345}},
		{[]rune{'b', 'a'}, []rune{'b', 'a'}},                                                   // of no class
		{[]rune{'a', 0x301, 0x300, 0x308}, []rune{'a', 0x301, 0x300, 0x308}},                   // of one class
		{[]rune{0x308, 0x323, 0x301, 0x323, 0x300}, []rune{0x323, 0x323, 0x308, 0x301, 0x300}}, // of two
		{[]rune{0x301, 'a', 0x323}, []rune{0x301, 'a', 0x323}},                                 // not beside one another
		{[]rune{0x301, 0xe9, 0x323}, []rune{0x301, 0xe9, 0x323}},                               // a row of class 0 stands between
		{[]rune{'a', 0x345, 0x301, 'b', 0x301, 0x323}, []rune{'a', 0x301, 0x345, 'b', 0x323, 0x301}},
		{[]rune{0x344, 0x327}, []rune{0x327, 0x344}},         // a class goes with a To
		{[]rune{-1, 0x301, 0x323}, []rune{-1, 0x323, 0x301}}, // Normal alone refuses
	}
	for _, x := range tests {
		if got := Order(sample(), x.s); !slices.Equal(got, x.want) {
			t.Errorf("Order(%x): %x, want %x", x.s, got, x.want)
		}
		if got := Order(nil, x.s); !slices.Equal(got, x.s) {
			t.Errorf("Order(%x) of no lore: %x", x.s, got)
		}
	}
}

func TestP2_1Normal(t *testing.T) {
	tests := []struct{ s, want []rune }{
		{nil, nil},
		{[]rune{0xe9}, []rune{'e', 0x301}},
		{[]rune{'e', 0x301}, []rune{'e', 0x301}},
		{[]rune{0xe9, 0x323}, []rune{'e', 0x323, 0x301}},
		{[]rune{'e', 0x323, 0x301}, []rune{'e', 0x323, 0x301}},
		{[]rune{0x1e14, 0x327, 0xf6}, []rune{'E', 0x327, 0x304, 0x300, 'o', 0x308}},
		{[]rune{'a', 0x344, 0x327, 0x301}, []rune{'a', 0x327, 0x308, 0x301, 0x301}},
		{[]rune{0, 0xd7ff, 0xe000, 0xfffd, 0x10ffff}, []rune{0, 0xd7ff, 0xe000, 0xfffd, 0x10ffff}},
	}
	for _, x := range tests {
		if got, e := Normal(sample(), x.s); !slices.Equal(got, x.want) || e != api.OK {
			t.Errorf("Normal(%x): %x, %v, want %x", x.s, got, e, x.want)
		}
		if got, e := Normal(nil, x.s); !slices.Equal(got, x.s) || e != api.OK {
			t.Errorf("Normal(%x) of no lore: %x, %v", x.s, got, e)
		}
	}
}

func TestP2_1NormalRefuses(t *testing.T) {
	wrong := []api.Lore{{R: 'a'}}
	tests := []struct {
		l    []api.Lore
		s    []rune
		want api.Errno
	}{
		{sample(), []rune{-1}, api.ErrText},
		{sample(), []rune{0xd800}, api.ErrText},
		{sample(), []rune{0xdfff}, api.ErrText},
		{sample(), []rune{0x110000}, api.ErrText},
		{sample(), []rune{'a', 0xe9, -1 << 31}, api.ErrText},
		{nil, []rune{'a', 1<<31 - 1, 'b'}, api.ErrText},
		{wrong, nil, api.ErrTable},
		{wrong, []rune{'a'}, api.ErrTable},
		{wrong, []rune{-1}, api.ErrTable}, // ahead of ErrText
		{marks(api.MaxRows + 1), []rune{'a'}, api.ErrTable},
	}
	for i, x := range tests {
		if got, e := Normal(x.l, x.s); len(got) != 0 || e != x.want {
			t.Errorf("Normal %d: %x, %v, want %v and nothing", i, got, e, x.want)
		}
	}
}

// swapped orders s by the shortest rule there is: two neighbours change places while the first one's class is the greater, and neither's is 0.
func swapped(l []api.Lore, s []rune) []rune {
	s = slices.Clone(s)
	for again := true; again; {
		again = false
		for i := 1; i < len(s); i++ {
			if a, b := Class(l, s[i-1]), Class(l, s[i]); b > 0 && a > b {
				s[i-1], s[i] = s[i], s[i-1]
				again = true
			}
		}
	}
	return s
}

// eachText shows see each text of some runes that is at most so long.
func eachText(most int, some []rune, see func(s []rune)) {
	texts := [][]rune{nil}
	for range most + 1 {
		var longer [][]rune
		for _, s := range texts {
			see(s)
			for _, r := range some {
				longer = append(longer, append(slices.Clone(s), r))
			}
		}
		texts = longer
	}
}

func TestP2_1OfAllShortTexts(t *testing.T) {
	l := sample()
	eachText(6, []rune{'a', 0xe9, 0x300, 0x301, 0x323, 0x344}, func(s []rune) {
		if got, want := Order(l, s), swapped(l, s); !slices.Equal(got, want) {
			t.Fatalf("Order(%x): %x, want %x", s, got, want)
		}
		got, e := Normal(l, s)
		if want := swapped(l, Apart(l, s)); !slices.Equal(got, want) || e != api.OK {
			t.Fatalf("Normal(%x): %x, %v, want %x", s, got, e, want)
		}
		if again, e := Normal(l, got); !slices.Equal(again, got) || e != api.OK {
			t.Fatalf("Normal(%x), which is normal: %x, %v", got, again, e)
		}
	})
}

func TestP2_1OrderOfALongRunIsStable(t *testing.T) {
	l := marks(api.MaxRows)
	for i := range l {
		l[i].Class = 1 + i%3
	}
	s := make([]rune, 5000)
	for i := range s {
		s[i] = 0x300 + rune(i*37%api.MaxRows)
	}
	if got, want := Order(l, s), byClass(l, s, 3); !slices.Equal(got, want) {
		t.Errorf("Order of a long run: not as it stood")
	}
}

// byClass gathers the runes of each class from 1 to most.
func byClass(l []api.Lore, s []rune, most int) []rune {
	var out []rune
	for class := 1; class <= most; class++ {
		for _, r := range s {
			if Class(l, r) == class {
				out = append(out, r)
			}
		}
	}
	return out
}

// A lore that may not be is refused by Normal alone: the others take its rows as they are.
func TestP2_1LoreThatMayNotBe(t *testing.T) {
	l := []api.Lore{
		{R: 'z', Class: 300},
		{R: 'b', Class: 9},
		{R: 'a', To: []rune{'b', 'c', 'd', 'e', 'a'}},
		{R: 'c', Class: -1},
		{R: 'b', Class: 2, To: []rune{'x'}},
		{R: -1, Class: 4},
	}
	for r, want := range map[rune]int{'z': 300, 'b': 9, 'a': 0, 'c': -1, 'd': 0, -1: 4} {
		if got := Class(l, r); got != want {
			t.Errorf("Class(%#x): %d, want %d", r, got, want)
		}
	}
	if got := Apart(l, []rune("zab")); string(got) != "zbcdeab" {
		t.Errorf("Apart: %q", string(got))
	}
	if got := Order(l, []rune{'z', 'b', -1, 'c', 'z', -1}); !slices.Equal(got, []rune{-1, 'b', 'z', 'c', -1, 'z'}) {
		t.Errorf("Order: %x", got)
	}
	if _, e := Normal(l, nil); e != api.ErrTable {
		t.Errorf("Normal: %v, want ErrTable", e)
	}
}

func TestP2_1EndsSoonWithMuch(t *testing.T) {
	const many = 1 << 18
	l := make([]api.Lore, many)
	s := make([]rune, many)
	for i := range l {
		l[i] = api.Lore{R: rune(many - i), Class: 1 + i%7}
		s[i] = rune(i)
	}
	if got := Apart(l, s); !slices.Equal(got, s) {
		t.Errorf("Apart of much changed it")
	}
	got := Order(l, s)
	if len(got) != many || !slices.IsSortedFunc(got[1:], func(a, b rune) int { return (many-int(a))%7 - (many-int(b))%7 }) {
		t.Errorf("Order of much: not by class")
	}
}

// same tells whether two lores are the same in all their rows.
func same(a, b []api.Lore) bool {
	return slices.EqualFunc(a, b, func(a, b api.Lore) bool {
		return a.R == b.R && a.Class == b.Class && slices.Equal(a.To, b.To)
	})
}

func TestR4LeavesWhatIsHandedIn(t *testing.T) {
	rows := sample()
	fallen := sample()
	slices.Reverse(fallen)
	for _, l := range [][]api.Lore{rows, fallen} {
		spare := append(slices.Clone(l), api.Lore{R: 'q', Class: 3, To: []rune{'r'}})
		all := []rune{'x', 0xe9, 0x323, 0x327, 'y', 0x345, 0x301, 'z', 0x308}
		was, text := slices.Clone(spare), slices.Clone(all)
		May(spare[:len(l)])
		Class(spare[:len(l)], 0x301)
		Apart(spare[:len(l)], all[:7])
		Order(spare[:len(l)], all[:7])
		Normal(spare[:len(l)], all[:7])
		if !same(spare, was) {
			t.Errorf("a lore was changed: %v", spare)
		}
		if !slices.Equal(all, text) {
			t.Errorf("a text was changed: %x", all)
		}
	}
}

func TestR4AnswersNewMemory(t *testing.T) {
	l := sample()
	plain := []rune{'a', 'b'}
	apart := []rune{0xe9}
	normal := func(s []rune) []rune {
		out, _ := Normal(l, s)
		return out
	}
	for _, s := range [][]rune{plain, apart} {
		for _, out := range [][]rune{Apart(l, s), Order(l, s), normal(s), Apart(nil, s), Order(nil, s)} {
			out = out[:cap(out)]
			for i := range out {
				out[i] = '!'
			}
		}
	}
	if !slices.Equal(plain, []rune{'a', 'b'}) || !slices.Equal(apart, []rune{0xe9}) || !same(l, sample()) {
		t.Errorf("an answer shares memory with what was handed in: %x, %x, %v", plain, apart, l)
	}
}
