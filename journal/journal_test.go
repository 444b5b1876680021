package journal

import (
	"bytes"
	"math"
	"reflect"
	"slices"
	"strings"
	"testing"

	"gazetteer/api"
	"gazetteer/medium"
	"gazetteer/parcel"
	"gazetteer/seal"
)

// dice answers numbers that look like any, the same each time.
func dice() func(most int) int {
	state := uint64(11)
	return func(most int) int {
		state = state*6364136223846793005 + 1442695040888963407
		return int(state>>33) % most
	}
}

// The parts as the promise writes them, by division.

func num(n int) string {
	return string([]byte{byte(n / 16777216), byte(n / 65536 % 256), byte(n / 256 % 256), byte(n % 256)})
}

func text(s string) string { return num(len(s)) + s }

func plainAsk(a api.Ask) string {
	return num(a.Do) + num(a.Client) + num(a.Seq) + num(a.Limit) + text(a.Text) + text(a.Val) + text(a.From) + text(a.To)
}

func plainRecords(l []api.Record) string {
	s := num(len(l))
	for _, x := range l {
		s += text(text(x.Text) + text(x.Val))
	}
	return s
}

func plainDeed(d Deed) string {
	return num(d.Do) + num(int(d.Err)) + num(d.Epoch) + text(d.Span.From) + text(d.Span.To) + text(plainAsk(d.Ask)) + text(plainRecords(d.L))
}

// plainFrame answers s in a frame, whose sum the promise of seal tells.
func plainFrame(kind byte, s string) string {
	head := string([]byte{byte(len(s) / 256), byte(len(s) % 256), kind})
	sum := int(seal.Sum([]byte(head + s)))
	return head + string([]byte{byte(sum / 16777216), byte(sum / 65536 % 256), byte(sum / 256 % 256), byte(sum % 256)}) + s
}

// row answers a deed's bytes of parts that may be any.
func row(do, err, epoch, from, to, ask, list string) string {
	return do + err + epoch + text(from) + text(to) + text(ask) + text(list)
}

const zero = "\x00\x00\x00\x00"

var (
	noAsk  = strings.Repeat(zero, 8)
	noList = zero
	noDeed = row(zero, zero, zero, "", "", noAsk, noList)
)

func fullDeed() Deed {
	return Deed{
		Do:    0x01020304,
		Ask:   api.Ask{Do: 1, Client: 2, Seq: 0x0a0b0c0d, Limit: 3, Text: "ab", Val: "\xff\x00", From: "c", To: "\u00e9"},
		Err:   api.ErrState,
		Span:  api.Span{From: "\x00f", To: "to\xff"},
		Epoch: 1<<28 - 1,
		L:     []api.Record{{Text: "k", Val: "v"}, {}, {Text: "", Val: "w"}},
	}
}

func small(n int) Deed { return Deed{Do: n} }

func isZero(d Deed) bool { return reflect.DeepEqual(d, Deed{}) }

func TestP11_1TheExample(t *testing.T) {
	one, two := small(1), fullDeed()
	first, _ := Pack(one)
	second, _ := Pack(two)
	for keep := 0; keep < 7+len(second); keep++ {
		m := medium.New()
		if e, f := Add(m, one), Add(m, two); e != api.OK || f != api.OK {
			t.Fatalf("Add: %v, %v", e, f)
		}
		m.Crash(7 + len(first) + keep)
		l, cut := Recover(m)
		if !reflect.DeepEqual(l, []Deed{one}) || cut != keep || len(m.Bytes()) != 7+len(first) {
			t.Fatalf("%d bytes of the second are left: %+v, %d cut off, %d left", keep, l, cut, len(m.Bytes()))
		}
	}
}

func TestP11_1Pack(t *testing.T) {
	full := "\x01\x02\x03\x04" + "\x00\x00\x00\x0a" + "\x0f\xff\xff\xff" +
		"\x00\x00\x00\x02\x00f" + "\x00\x00\x00\x03to\xff" +
		"\x00\x00\x00\x27" + "\x00\x00\x00\x01\x00\x00\x00\x02\x0a\x0b\x0c\x0d\x00\x00\x00\x03" +
		"\x00\x00\x00\x02ab" + "\x00\x00\x00\x02\xff\x00" + "\x00\x00\x00\x01c" + "\x00\x00\x00\x02\xc3\xa9" +
		"\x00\x00\x00\x2b" + "\x00\x00\x00\x03" +
		"\x00\x00\x00\x0a" + "\x00\x00\x00\x01k" + "\x00\x00\x00\x01v" +
		"\x00\x00\x00\x08" + "\x00\x00\x00\x00" + "\x00\x00\x00\x00" +
		"\x00\x00\x00\x09" + "\x00\x00\x00\x00" + "\x00\x00\x00\x01w"
	tests := []struct {
		d    Deed
		want string
	}{
		{Deed{}, strings.Repeat(zero, 5) + "\x00\x00\x00\x20" + strings.Repeat(zero, 8) + "\x00\x00\x00\x04" + zero},
		{Deed{Do: 1, Err: 2, Epoch: 3}, num(1) + num(2) + num(3) + noDeed[12:]},
		{Deed{Span: api.Span{From: "a"}}, row(zero, zero, zero, "a", "", noAsk, noList)},
		{Deed{Span: api.Span{To: "a"}}, row(zero, zero, zero, "", "a", noAsk, noList)},
		{Deed{L: []api.Record{{}}}, row(zero, zero, zero, "", "", noAsk, num(1)+num(8)+zero+zero)},
		{fullDeed(), full},
	}
	for _, x := range tests {
		b, e := Pack(x.d)
		if string(b) != x.want || e != api.OK {
			t.Errorf("Pack(%+v): %q, %v, want %q", x.d, b, e, x.want)
		}
		if d, e := Read([]byte(x.want)); !reflect.DeepEqual(d, x.d) || e != api.OK {
			t.Errorf("Read(%q): %+v, %v", x.want, d, e)
		}
	}
	if b, e := Pack(Deed{L: []api.Record{}}); string(b) != noDeed || e != api.OK {
		t.Errorf("Pack with an empty list: %q, %v", b, e)
	}
}

// set answers deeds that have n in one of their numbers each, those of the ask too.
func set(n int) []Deed {
	return []Deed{
		{Do: n}, {Err: api.Errno(n)}, {Epoch: n},
		{Ask: api.Ask{Do: n}}, {Ask: api.Ask{Client: n}}, {Ask: api.Ask{Seq: n}}, {Ask: api.Ask{Limit: n}},
	}
}

func TestP11_1NumbersAtTheirBounds(t *testing.T) {
	for _, n := range []int{0, 1, 255, 256, 1<<28 - 2, 1<<28 - 1} {
		for _, d := range set(n) {
			b, e := Pack(d)
			if string(b) != plainDeed(d) || e != api.OK {
				t.Errorf("Pack(%+v): %q, %v", d, b, e)
			}
			if back, e := Read(b); !reflect.DeepEqual(back, d) || e != api.OK {
				t.Errorf("Read of Pack(%+v): %+v, %v", d, back, e)
			}
		}
	}
	for _, n := range []int{-1, 1 << 28, 1<<28 + 1, 1<<31 - 1, 1 << 32, 1<<32 + 1, math.MaxInt, math.MinInt} {
		for _, d := range set(n) {
			if b, e := Pack(d); b != nil || e != api.ErrArg {
				t.Errorf("Pack(%+v): %q, %v", d, b, e)
			}
			m := medium.New()
			if e := Add(m, d); e != api.ErrArg || len(m.Bytes()) != 0 {
				t.Errorf("Add(%+v): %v, %d bytes", d, e, len(m.Bytes()))
			}
		}
	}
}

func TestP11_1PackWhatParcelRefuses(t *testing.T) {
	long := strings.Repeat("x", api.MaxFrame-32)
	d := Deed{Ask: api.Ask{Text: long}}
	if b, e := Pack(d); string(b) != plainDeed(d) || e != api.OK {
		t.Errorf("an ask of MaxFrame bytes: %d bytes, %v", len(b), e)
	}
	d.Ask.To = "x"
	if b, e := Pack(d); b != nil || e != api.ErrArg {
		t.Errorf("an ask of a byte more: %d bytes, %v", len(b), e)
	}
	many := Deed{L: make([]api.Record, 1<<20)}
	b, e := Pack(many)
	if len(b) != len(noDeed)+12<<20 || e != api.OK {
		t.Errorf("2^20 records: %d bytes, %v", len(b), e)
	}
	if back, e := Read(b); !reflect.DeepEqual(back, many) || e != api.OK {
		t.Errorf("Read of 2^20 records: %d records, %v", len(back.L), e)
	}
	many.L = make([]api.Record, 1<<20+1)
	if b, e := Pack(many); b != nil || e != api.ErrArg {
		t.Errorf("2^20 + 1 records: %d bytes, %v", len(b), e)
	}
	great := strings.Repeat("x", 1<<28)
	for _, d := range []Deed{{Span: api.Span{From: great}}, {Span: api.Span{To: great}}, {L: []api.Record{{Text: great}}}, {L: []api.Record{{}, {Val: great}, {}}}} {
		if b, e := Pack(d); b != nil || e != api.ErrArg {
			t.Errorf("a text of 2^28 bytes: %d bytes, %v", len(b), e)
		}
	}
}

func TestP11_1PackIsNotBoundByAFrame(t *testing.T) {
	long := strings.Repeat("x", 3*api.MaxFrame)
	for _, d := range []Deed{{Span: api.Span{From: long}}, {Span: api.Span{To: long}}, {L: []api.Record{{Text: long}}}, {L: []api.Record{{Val: long}, {Text: long}}}} {
		b, e := Pack(d)
		if string(b) != plainDeed(d) || e != api.OK {
			t.Errorf("Pack: %d bytes, %v", len(b), e)
		}
		if back, e := Read(b); !reflect.DeepEqual(back, d) || e != api.OK {
			t.Errorf("Read of %d bytes: %v", len(b), e)
		}
	}
}

// plainNumber answers the number that s begins with.
func plainNumber(s string) int {
	return int(s[0])*16777216 + int(s[1])*65536 + int(s[2])*256 + int(s[3])
}

// plainRead answers what the promise says of s: first ErrShort, then ErrForm for bytes that are left, then what parcel says, part by part.
func plainRead(s string) api.Errno {
	if len(s) < 12 {
		return api.ErrShort
	}
	over := false
	for i := range 3 {
		over = over || plainNumber(s[4*i:]) >= 1<<28
	}
	s = s[12:]
	var parts []string
	for range 4 {
		if len(s) < 4 || len(s)-4 < plainNumber(s) {
			return api.ErrShort
		}
		n := plainNumber(s)
		parts = append(parts, s[4:4+n])
		s = s[4+n:]
	}
	if s != "" || over {
		return api.ErrForm
	}
	if _, e := parcel.ReadAsk([]byte(parts[2])); e != api.OK {
		return e
	}
	return plainList(parts[3])
}

func plainList(s string) api.Errno {
	if len(s) < 4 {
		return api.ErrShort
	}
	many := plainNumber(s)
	if many >= 1<<28 {
		return api.ErrForm
	}
	s = s[4:]
	for range many {
		switch {
		case len(s) < 4:
			return api.ErrShort
		case plainNumber(s) >= 1<<28:
			return api.ErrForm
		case len(s)-4 < plainNumber(s):
			return api.ErrShort
		}
		n := plainNumber(s)
		if e := plainRecord(s[4 : 4+n]); e != api.OK {
			return e
		}
		s = s[4+n:]
	}
	if s != "" {
		return api.ErrForm
	}
	return api.OK
}

func plainRecord(s string) api.Errno {
	for range 2 {
		switch {
		case len(s) < 4:
			return api.ErrShort
		case plainNumber(s) >= 1<<28:
			return api.ErrForm
		case len(s)-4 < plainNumber(s):
			return api.ErrShort
		}
		s = s[4+plainNumber(s):]
	}
	if s != "" {
		return api.ErrForm
	}
	return api.OK
}

// checkRead holds Read against the promise: its error, and, where there is none, that Pack of what it answers is what was read.
func checkRead(t *testing.T, s string) {
	t.Helper()
	want := plainRead(s)
	d, e := Read([]byte(s))
	if e != want || e != api.OK && !isZero(d) || e == api.OK && plainDeed(d) != s {
		t.Fatalf("Read(%q): %+v, %v, want %v", s, d, e, want)
	}
}

func TestP11_1ReadOrderOfErrors(t *testing.T) {
	high := "\x10\x00\x00\x00" // 2^28
	tests := []struct {
		s    string
		want api.Errno
	}{
		{"", api.ErrShort},
		{noDeed, api.OK},
		{noDeed[:3], api.ErrShort},
		{noDeed[:11], api.ErrShort},
		{noDeed[:12], api.ErrShort},
		{noDeed[:len(noDeed)-1], api.ErrShort},
		{noDeed + "\x00", api.ErrForm},
		{noDeed + noDeed, api.ErrForm},
		{row(high, zero, zero, "", "", noAsk, noList), api.ErrForm},
		{row(zero, high, zero, "", "", noAsk, noList), api.ErrForm},
		{row(zero, zero, high, "", "", noAsk, noList), api.ErrForm},
		{high, api.ErrShort}, // a part that is not there goes ahead of a number that is none
		{row(high, zero, zero, "", "", noAsk, noList)[:50], api.ErrShort},
		{row(high, zero, zero, "", "", "", noList), api.ErrForm},              // ahead of the ask's error
		{row(zero, zero, zero, "", "", "", noList) + "\x00", api.ErrForm},     // bytes that are left go ahead of the ask's error
		{row(zero, zero, zero, "", "", noAsk, "") + "\x00", api.ErrForm},      // and of the list's
		{row(zero, zero, zero, "", "", noAsk+"x", noList)[:50], api.ErrShort}, // and what is not there ahead of all
		{row(zero, zero, zero, "", "", "", noList), api.ErrShort},
		{row(zero, zero, zero, "", "", noAsk[:31], noList), api.ErrShort},
		{row(zero, zero, zero, "", "", noAsk+"\x00", noList), api.ErrForm},
		{row(zero, zero, zero, "", "", high+noAsk[4:], noList), api.ErrForm},
		{row(zero, zero, zero, "", "", strings.Repeat("\x00", api.MaxFrame+1), noList), api.ErrLong},
		{row(zero, zero, zero, "", "", strings.Repeat("\x00", api.MaxFrame), noList), api.ErrForm},
		{row(zero, zero, zero, "", "", strings.Repeat("\x00", api.MaxFrame+1), ""), api.ErrLong}, // the ask's error goes ahead of the list's
		{row(zero, zero, zero, "", "", noAsk[:31], noList+"\x00"), api.ErrShort},
		{row(zero, zero, zero, "", "", noAsk+"\x00", ""), api.ErrForm},
		{row(zero, zero, zero, "", "", noAsk, ""), api.ErrShort},
		{row(zero, zero, zero, "", "", noAsk, noList[:3]), api.ErrShort},
		{row(zero, zero, zero, "", "", noAsk, noList+"\x00"), api.ErrForm},
		{row(zero, zero, zero, "", "", noAsk, num(1)), api.ErrShort},
		{row(zero, zero, zero, "", "", noAsk, "\x0f\xff\xff\xff"), api.ErrShort},
		{row(zero, zero, zero, "", "", noAsk, high), api.ErrForm},
		{row(zero, zero, zero, "", "", noAsk, num(1)+text("")), api.ErrShort},                  // a record without a text
		{row(zero, zero, zero, "", "", noAsk, num(1)+text(zero)), api.ErrShort},                // one without a value
		{row(zero, zero, zero, "", "", noAsk, num(1)+text(zero+zero+"x")), api.ErrForm},        // one with a byte too many
		{row(zero, zero, zero, "", "", noAsk, num(1)+text(zero+num(1))), api.ErrShort},         // a value without its byte
		{row(zero, zero, zero, "", "", noAsk, num(1)+text(high+zero)), api.ErrForm},            // a length that is none
		{row(zero, zero, zero, "", "", noAsk, num(1)+text(zero+zero)), api.OK},                 //
		{row(zero, zero, zero, "", "", noAsk, num(2)+text(zero+zero)), api.ErrShort},           //
		{row(zero, zero, zero, "", "", noAsk, num(1)+text(zero+zero)+"\x00"), api.ErrForm},     //
		{row(zero, zero, zero, "", "", noAsk, num(2)+text(zero+zero+"x")+"\x00"), api.ErrForm}, // what is met first in the list
		{row(zero, zero, zero, "", "", noAsk, num(2)+text(zero)+text(zero+zero+"x")), api.ErrShort},
		{zero + zero + zero + "\xff\xff\xff\xff" + noDeed, api.ErrShort},
		{zero + zero + zero + high + noDeed, api.ErrShort},
		{zero + zero + zero + text("a") + text("b") + "\x00\x00\x00\x20" + noAsk[:31], api.ErrShort},
	}
	for _, x := range tests {
		if d, e := Read([]byte(x.s)); e != x.want || e != api.OK && !isZero(d) {
			t.Errorf("Read(%.200q): %+v, %v, want %v", x.s, d, e, x.want)
		}
		checkRead(t, x.s)
	}
}

func TestP11_1EachPlaceToCutAndEachByteChanged(t *testing.T) {
	s := plainDeed(fullDeed())
	for _, more := range []string{"", "\x00", "abc"} {
		for i := range s {
			checkRead(t, s[:i]+more)
			checkRead(t, s[i:]+more)
			checkRead(t, s[:i]+s[i+1:]+more)
			checkRead(t, s[:i]+"\x00"+s[i:]+more)
			for x := range 256 {
				checkRead(t, s[:i]+string([]byte{byte(x)})+s[i+1:]+more)
			}
		}
		checkRead(t, s+more)
	}
}

// some answers a text that looks like any.
func some(roll func(int) int) string {
	b := make([]byte, roll(5))
	for i := range b {
		b[i] = byte(roll(256))
	}
	return string(b)
}

func someDeed(roll func(int) int) Deed {
	d := Deed{
		Do: roll(9), Err: api.Errno(roll(15)), Epoch: roll(1 << 28), Span: api.Span{From: some(roll), To: some(roll)},
		Ask: api.Ask{Do: roll(6), Client: roll(5), Seq: roll(1 << 28), Limit: roll(20), Text: some(roll), Val: some(roll), From: some(roll), To: some(roll)},
	}
	for range roll(4) {
		d.L = append(d.L, api.Record{Text: some(roll), Val: some(roll)})
	}
	return d
}

func TestP11_1AnyDeeds(t *testing.T) {
	roll := dice()
	for range 3000 {
		d := someDeed(roll)
		b, e := Pack(d)
		if string(b) != plainDeed(d) || e != api.OK {
			t.Fatalf("Pack(%+v): %q, %v", d, b, e)
		}
		if back, e := Read(b); !reflect.DeepEqual(back, d) || e != api.OK {
			t.Fatalf("Read of Pack(%+v): %+v, %v", d, back, e)
		}
	}
}

func TestP11_1AnyBytes(t *testing.T) {
	roll := dice()
	for range 30000 {
		b := make([]byte, roll(90))
		for i := range b {
			if roll(6) == 0 { // mostly noughts, so that lengths are small
				b[i] = byte(roll(256) >> roll(8))
			}
		}
		checkRead(t, string(b))
	}
}

func TestP11_1Add(t *testing.T) {
	m := medium.New()
	m.Append([]byte("ahead"))
	m.Sync()
	want := "ahead"
	for _, d := range []Deed{{}, fullDeed(), small(3)} {
		if e := Add(m, d); e != api.OK {
			t.Fatalf("Add: %v", e)
		}
		want += plainFrame(7, plainDeed(d))
		if got := m.Bytes(); string(got) != want || m.Loose() != len(want)-5 {
			t.Fatalf("behind Add: %q, of which %d are loose, want %q", got, m.Loose(), want)
		}
	}
	m.Crash(0)
	if string(m.Bytes()) != "ahead" {
		t.Errorf("what was added is there behind a crash that leaves none: %q", m.Bytes())
	}
}

func TestP11_1AddAtMaxFrame(t *testing.T) {
	room := api.MaxFrame - len(noDeed)
	long := strings.Repeat("x", room)
	for _, d := range []Deed{{Span: api.Span{From: long}}, {Span: api.Span{From: long[:9], To: long[9:]}}, {Ask: api.Ask{Val: long}}, {L: []api.Record{{Val: long[12:]}}}} {
		m := medium.New()
		if e := Add(m, d); e != api.OK || string(m.Bytes()) != plainFrame(7, plainDeed(d)) {
			t.Errorf("a deed of MaxFrame bytes: %v, %d bytes", e, len(m.Bytes()))
		}
		if l, cut := Recover(m); !reflect.DeepEqual(l, []Deed{d}) || cut != 0 {
			t.Errorf("Recover of a deed of MaxFrame bytes: %d deeds, %d cut off", len(l), cut)
		}
		d.Span.To += "x"
		m = medium.New()
		m.Append([]byte("ab"))
		m.Sync()
		m.Append([]byte("c"))
		if e := Add(m, d); e != api.ErrLong || string(m.Bytes()) != "abc" || m.Loose() != 1 {
			t.Errorf("a deed of a byte more: %v, %d bytes, %d loose", e, len(m.Bytes()), m.Loose())
		}
		d.Do = -1
		if e := Add(m, d); e != api.ErrArg || string(m.Bytes()) != "abc" || m.Loose() != 1 {
			t.Errorf("a deed that cannot be packed, and is too long: %v, %d bytes", e, len(m.Bytes()))
		}
	}
}

// laid answers a medium of those bytes, of which the last are not synced.
func laid(s string, loose int) *medium.Medium {
	m := medium.New()
	m.Swap([]byte(s[:len(s)-loose]))
	m.Append([]byte(s[len(s)-loose:]))
	return m
}

// checkRecover tells where Recover of s does not answer those deeds, or does not cut s to them.
func checkRecover(t *testing.T, what string, s string, want []Deed) {
	t.Helper()
	kept := ""
	for _, d := range want {
		kept += plainFrame(7, plainDeed(d))
	}
	if !strings.HasPrefix(s, kept) {
		t.Fatalf("%s: the test asks for what is not there", what)
	}
	for _, loose := range []int{0, min(1, len(s)), len(s) / 2, len(s)} {
		m := laid(s, loose)
		l, cut := Recover(m)
		if len(l) != len(want) || len(l) > 0 && !reflect.DeepEqual(l, want) || cut != len(s)-len(kept) {
			t.Fatalf("%s: %d deeds, %d cut off, want %d, %d", what, len(l), cut, len(want), len(s)-len(kept))
		}
		if string(m.Bytes()) != kept || m.Loose() != 0 {
			t.Fatalf("%s: %d bytes are left, %d loose, want %d", what, len(m.Bytes()), m.Loose(), len(kept))
		}
		again, cut := Recover(m)
		if !reflect.DeepEqual(again, l) || cut != 0 || string(m.Bytes()) != kept {
			t.Fatalf("%s, again: %d deeds, %d cut off", what, len(again), cut)
		}
	}
}

func TestP11_1Recover(t *testing.T) {
	a, b, c := small(1), fullDeed(), Deed{}
	frame := func(d Deed) string { return plainFrame(7, plainDeed(d)) }
	fa, fb, fc := frame(a), frame(b), frame(c)
	other := plainFrame(6, plainDeed(b))
	changed := fb[:20] + "\xaa" + fb[21:]
	tests := []struct {
		what, s string
		want    []Deed
	}{
		{"nothing", "", nil},
		{"one", fa, []Deed{a}},
		{"three", fa + fb + fc, []Deed{a, b, c}},
		{"the same twice", fb + fb, []Deed{b, b}},
		{"no frame", "abcdefghijklmnop", nil},
		{"noughts", strings.Repeat("\x00", 100), nil},
		{"ones", strings.Repeat("\xff", 100), nil},
		{"noughts behind", fa + strings.Repeat("\x00", 100), []Deed{a}},
		{"a byte ahead", "\x00" + fa, nil},
		{"a byte behind", fa + fb + "\x00", []Deed{a, b}},
		{"another kind first", other + fa, nil},
		{"another kind between", fa + other + fb, []Deed{a}},
		{"kind 8", fa + plainFrame(8, plainDeed(b)), []Deed{a}},
		{"kind 0", plainFrame(0, plainDeed(b)), nil},
		{"kind 7 and the highest bit", plainFrame(0x87, plainDeed(b)), nil},
		{"a frame that does not open between", fa + changed + fb, []Deed{a}},
		{"a frame that does not open first", changed + fb, nil},
		{"a frame that is torn, and one behind", fa + fb[:len(fb)-1] + fc, []Deed{a}},
		{"no deed in it", fa + plainFrame(7, "") + fb, []Deed{a}},
		{"no deed in it at first", plainFrame(7, noDeed[1:]) + fb, nil},
		{"a byte behind the deed in it", fa + fb + plainFrame(7, noDeed+"\x00") + fc, []Deed{a, b}},
		{"a deed whose ask is none", fa + plainFrame(7, row(zero, zero, zero, "", "", "", noList)) + fc, []Deed{a}},
		{"a deed whose list is none", fa + plainFrame(7, row(zero, zero, zero, "", "", noAsk, "")) + fc, []Deed{a}},
		{"a deed whose number is none", fa + plainFrame(7, "\x10"+noDeed[1:]) + fc, []Deed{a}},
	}
	for _, x := range tests {
		checkRecover(t, x.what, x.s, x.want)
	}
}

func TestP11_1EachPlaceToTear(t *testing.T) {
	l := []Deed{small(1), fullDeed(), {}, small(4)}
	s := ""
	var ends []int
	for _, d := range l {
		s += plainFrame(7, plainDeed(d))
		ends = append(ends, len(s))
	}
	whole := func(at int) int { // how many frames end at or ahead of at
		many := 0
		for many < len(ends) && ends[many] <= at {
			many++
		}
		return many
	}
	for at := range len(s) + 1 {
		checkRecover(t, "torn", s[:at], l[:whole(at)])
		if at < len(s) {
			checkRecover(t, "changed", s[:at]+string([]byte{s[at] ^ 0x10})+s[at+1:], l[:whole(at)])
		}
	}
}

func TestP11_1RecoverOfADeedWithMoreBehindIt(t *testing.T) {
	m := medium.New()
	Add(m, small(1))
	m.Sync()
	Add(m, small(2))
	m.Crash(9)
	if l, cut := Recover(m); !reflect.DeepEqual(l, []Deed{small(1)}) || cut != 9 {
		t.Fatalf("%+v, %d", l, cut)
	}
	Add(m, small(3)) // it stands where the torn one stood
	m.Sync()
	if l, cut := Recover(m); !reflect.DeepEqual(l, []Deed{small(1), small(3)}) || cut != 0 {
		t.Fatalf("%+v, %d", l, cut)
	}
}

func TestP11_1AnyRuns(t *testing.T) {
	roll := dice()
	for range 300 {
		m, synced, loose := medium.New(), []Deed(nil), []Deed(nil)
		for range 30 {
			switch roll(5) {
			case 0:
				m.Sync()
				synced, loose = append(synced, loose...), nil
			case 1:
				keep := 0
				for range roll(len(loose) + 1) { // some of them whole, and a part of the next one
					keep += len(plainFrame(7, plainDeed(loose[0])))
					synced, loose = append(synced, loose[0]), loose[1:]
				}
				part := 0
				if len(loose) > 0 {
					part = roll(len(plainFrame(7, plainDeed(loose[0]))))
				}
				m.Crash(keep + part)
				l, cut := Recover(m)
				if len(l) != len(synced) || len(l) > 0 && !reflect.DeepEqual(l, synced) || cut != part {
					t.Fatalf("%d deeds, %d cut off, want %d, %d", len(l), cut, len(synced), part)
				}
				loose = nil
			default:
				d := someDeed(roll)
				if e := Add(m, d); e != api.OK {
					t.Fatal(e)
				}
				loose = append(loose, d)
			}
		}
	}
}

func TestP11_1Much(t *testing.T) {
	m := medium.New()
	for i := range 50000 {
		Add(m, small(i))
	}
	l, cut := Recover(m)
	if len(l) != 50000 || l[49999].Do != 49999 || cut != 0 {
		t.Errorf("%d deeds, %d cut off", len(l), cut)
	}
	great := Deed{L: []api.Record{{Val: strings.Repeat("x", 20000)}}}
	m = medium.New()
	for range 500 {
		Add(m, great)
	}
	if l, cut := Recover(m); len(l) != 500 || cut != 0 {
		t.Errorf("%d great deeds, %d cut off", len(l), cut)
	}
}

func TestR4WhatIsHandedInStaysAndIsNotKept(t *testing.T) {
	l := []api.Record{{Text: "a", Val: "b"}, {Text: "c"}, {Text: "spare", Val: "room"}}
	was := slices.Clone(l)
	d := Deed{L: l[:2]}
	b, _ := Pack(d)
	m := medium.New()
	Add(m, d)
	if !slices.Equal(l, was) {
		t.Errorf("Pack or Add changed the records: %v", l)
	}
	l[0].Text = "changed"
	if got, _ := Recover(m); got[0].L[0].Text != "a" {
		t.Errorf("a deed that was added has changed: %v", got)
	}
	data := append(bytes.Clone(b), "spare room"...)
	copied := bytes.Clone(data)
	x, e := Read(data[:len(b)])
	if e != api.OK || !bytes.Equal(data, copied) {
		t.Errorf("Read changed its bytes, or: %v", e)
	}
	clear(data)
	if x.L[0] != (api.Record{Text: "a", Val: "b"}) {
		t.Errorf("what was read hangs on the bytes: %v", x)
	}
}

// scribble writes over all of l, spare room too.
func scribble(l []api.Record) {
	for i := range l[:cap(l)] {
		l[:cap(l)][i] = api.Record{Text: "scribbled", Val: "over"}
	}
}

func TestR4WhatIsAnsweredIsNewMemory(t *testing.T) {
	d := fullDeed()
	b, _ := Pack(d)
	c, _ := Pack(d)
	clear(b[:cap(b)])
	if string(c) != plainDeed(d) {
		t.Error("two answers of Pack share memory")
	}
	x, _ := Read(c)
	y, _ := Read(c)
	scribble(x.L)
	if !reflect.DeepEqual(y, d) {
		t.Error("two answers of Read share memory")
	}
	m := medium.New()
	Add(m, d)
	Add(m, d)
	l, _ := Recover(m)
	for i := range l[:cap(l)] {
		scribble(l[:cap(l)][i].L)
		if i+1 < len(l) && !reflect.DeepEqual(l[i+1], d) {
			t.Error("two deeds of one answer share memory")
		}
		l[:cap(l)][i] = Deed{}
	}
	if again, _ := Recover(m); !reflect.DeepEqual(again, []Deed{d, d}) {
		t.Error("two answers of Recover share memory")
	}
}

func TestR7NilMedium(t *testing.T) {
	for _, d := range []Deed{{}, fullDeed(), {Do: -1}, {Span: api.Span{To: strings.Repeat("x", api.MaxFrame)}}} {
		if e := Add(nil, d); e != api.ErrArg {
			t.Errorf("Add to no medium: %v", e)
		}
	}
	if l, cut := Recover(nil); len(l) != 0 || cut != 0 {
		t.Errorf("Recover of no medium: %v, %d", l, cut)
	}
	var m medium.Medium // its zero value has no bytes
	if e := Add(&m, small(1)); e != api.OK {
		t.Errorf("Add to a zero medium: %v", e)
	}
	if l, cut := Recover(&m); len(l) != 1 || cut != 0 {
		t.Errorf("Recover of a zero medium: %v, %d", l, cut)
	}
	if d, e := Read(nil); !isZero(d) || e != api.ErrShort {
		t.Errorf("Read(nil): %+v, %v", d, e)
	}
}
