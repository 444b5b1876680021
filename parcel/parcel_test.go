package parcel

import (
	"bytes"
	"fmt"
	"math"
	"reflect"
	"slices"
	"strings"
	"testing"

	"gazetteer/api"
)

// dice answers numbers that look like any, the same each time.
func dice() func(most int) int {
	state := uint64(7)
	return func(most int) int {
		state = state*6364136223846793005 + 1442695040888963407
		return int(state>>33) % most
	}
}

// The parts as the promise writes them, by division.

func num(n int) string {
	return string([]byte{byte(n / 16777216), byte(n / 65536 % 256), byte(n / 256 % 256), byte(n % 256)})
}

func text(s string) string { return num(len(s)) + s }

func truth(t bool) string {
	if t {
		return "\x01"
	}
	return "\x00"
}

func plainAsk(a api.Ask) string {
	return num(a.Do) + num(a.Client) + num(a.Seq) + num(a.Limit) + text(a.Text) + text(a.Val) + text(a.From) + text(a.To)
}

func plainReply(r api.Reply) string {
	s := num(r.Client) + num(r.Seq) + num(int(r.Err)) + truth(r.Found) + text(r.Val) + num(len(r.L))
	for _, x := range r.L {
		s += text(x.Text) + text(x.Val)
	}
	return s + text(r.Next) + truth(r.More)
}

func plainList(l []string) string {
	s := num(len(l))
	for _, x := range l {
		s += text(x)
	}
	return s
}

// plainEnd answers, by the sorts of its parts (n, t, b; r: records, how many ahead), what is met first in s.
func plainEnd(s, parts string) api.Errno {
	for len(parts) > 0 {
		part := parts[0]
		parts = parts[1:]
		if part == 'b' {
			switch {
			case s == "":
				return api.ErrShort
			case s[0] != 0 && s[0] != 1:
				return api.ErrForm
			}
			s = s[1:]
			continue
		}
		if len(s) < 4 {
			return api.ErrShort
		}
		if s[0] >= 16 { // 2^28 and more
			return api.ErrForm
		}
		n := int(s[0])*16777216 + int(s[1])*65536 + int(s[2])*256 + int(s[3])
		s = s[4:]
		switch part {
		case 't':
			if len(s) < n {
				return api.ErrShort
			}
			s = s[n:]
		case 'r':
			if n > len(s) { // each record has bytes
				n = len(s) + 1
			}
			parts = strings.Repeat("tt", n) + parts
		}
	}
	if s != "" {
		return api.ErrForm
	}
	return api.OK
}

const (
	askParts   = "nnnntttt"
	replyParts = "nnnbtrtb"
)

// checkAsk holds ReadAsk against the promise: its error, and, where there is none, that Ask of what it answers is what was read.
func checkAsk(t *testing.T, s string) {
	t.Helper()
	want := plainEnd(s, askParts)
	a, e := ReadAsk([]byte(s))
	if e != want || e != api.OK && a != (api.Ask{}) || e == api.OK && plainAsk(a) != s {
		t.Fatalf("ReadAsk(%q): %+v, %v, want %v", s, a, e, want)
	}
}

func checkReply(t *testing.T, s string) {
	t.Helper()
	want := plainEnd(s, replyParts)
	r, e := ReadReply([]byte(s))
	if e != want || e != api.OK && !reflect.DeepEqual(r, api.Reply{}) || e == api.OK && plainReply(r) != s {
		t.Fatalf("ReadReply(%q): %+v, %v, want %v", s, r, e, want)
	}
}

func fullAsk() api.Ask {
	return api.Ask{Do: 1, Client: 2, Seq: 0x01020304, Limit: 0x0fffffff, Text: "ab", Val: "\xff\x00", From: "c", To: "\u00e9"}
}

func fullReply() api.Reply {
	return api.Reply{
		Client: 3, Seq: 0x0a0b0c0d, Err: api.ErrNone, Found: true, Val: "v",
		L: []api.Record{{Text: "a", Val: "x"}, {}, {Text: "bc"}}, Next: "\x00\x01", More: true,
	}
}

func TestP9_1Ask(t *testing.T) {
	tests := []struct {
		a    api.Ask
		want string
	}{
		{api.Ask{}, strings.Repeat("\x00", 32)},
		{
			fullAsk(),
			"\x00\x00\x00\x01" + "\x00\x00\x00\x02" + "\x01\x02\x03\x04" + "\x0f\xff\xff\xff" +
				"\x00\x00\x00\x02ab" + "\x00\x00\x00\x02\xff\x00" + "\x00\x00\x00\x01c" + "\x00\x00\x00\x02\xc3\xa9",
		},
		{api.Ask{Do: 255, Client: 256, Seq: 65535, Limit: 65536}, "\x00\x00\x00\xff\x00\x00\x01\x00\x00\x00\xff\xff\x00\x01\x00\x00" + strings.Repeat("\x00", 16)},
		{api.Ask{Text: strings.Repeat("k", 300)}, strings.Repeat("\x00", 16) + "\x00\x00\x01\x2c" + strings.Repeat("k", 300) + strings.Repeat("\x00", 12)},
	}
	for _, x := range tests {
		b, e := Ask(x.a)
		if string(b) != x.want || e != api.OK {
			t.Errorf("Ask(%+v): %q, %v, want %q", x.a, b, e, x.want)
		}
		if a, e := ReadAsk([]byte(x.want)); a != x.a || e != api.OK {
			t.Errorf("ReadAsk(%q): %+v, %v", x.want, a, e)
		}
	}
}

func TestP9_1Reply(t *testing.T) {
	tests := []struct {
		r    api.Reply
		want string
	}{
		{api.Reply{}, strings.Repeat("\x00", 26)},
		{
			fullReply(),
			"\x00\x00\x00\x03" + "\x0a\x0b\x0c\x0d" + "\x00\x00\x00\x09" + "\x01" + "\x00\x00\x00\x01v" +
				"\x00\x00\x00\x03" + "\x00\x00\x00\x01a\x00\x00\x00\x01x" + "\x00\x00\x00\x00\x00\x00\x00\x00" + "\x00\x00\x00\x02bc\x00\x00\x00\x00" +
				"\x00\x00\x00\x02\x00\x01" + "\x01",
		},
		{api.Reply{Found: true}, strings.Repeat("\x00", 12) + "\x01" + strings.Repeat("\x00", 13)},
		{api.Reply{More: true}, strings.Repeat("\x00", 25) + "\x01"},
		{api.Reply{Err: 1<<28 - 1}, strings.Repeat("\x00", 8) + "\x0f\xff\xff\xff" + strings.Repeat("\x00", 14)},
	}
	for _, x := range tests {
		b, e := Reply(x.r)
		if string(b) != x.want || e != api.OK {
			t.Errorf("Reply(%+v): %q, %v, want %q", x.r, b, e, x.want)
		}
		if r, e := ReadReply([]byte(x.want)); !reflect.DeepEqual(r, x.r) || e != api.OK {
			t.Errorf("ReadReply(%q): %+v, %v", x.want, r, e)
		}
	}
	b, e := Reply(api.Reply{L: []api.Record{}})
	if string(b) != strings.Repeat("\x00", 26) || e != api.OK {
		t.Errorf("Reply with an empty list: %q, %v", b, e)
	}
}

// setAsk answers asks that have n in one of their numbers each.
func setAsk(n int) []api.Ask { return []api.Ask{{Do: n}, {Client: n}, {Seq: n}, {Limit: n}} }

func setReply(n int) []api.Reply { return []api.Reply{{Client: n}, {Seq: n}, {Err: api.Errno(n)}} }

func TestP9_1NumbersAtTheirBounds(t *testing.T) {
	for _, n := range []int{0, 1, 1<<28 - 2, 1<<28 - 1} {
		for _, a := range setAsk(n) {
			if b, e := Ask(a); string(b) != plainAsk(a) || e != api.OK {
				t.Errorf("Ask(%+v): %q, %v", a, b, e)
			}
			checkAsk(t, plainAsk(a))
		}
		for _, r := range setReply(n) {
			if b, e := Reply(r); string(b) != plainReply(r) || e != api.OK {
				t.Errorf("Reply(%+v): %q, %v", r, b, e)
			}
			checkReply(t, plainReply(r))
		}
	}
	for _, n := range []int{-1, 1 << 28, 1<<28 + 1, 1<<31 - 1, 1 << 32, 1<<32 + 1, math.MaxInt, math.MinInt, -1 << 32} {
		for _, a := range setAsk(n) {
			if b, e := Ask(a); b != nil || e != api.ErrArg {
				t.Errorf("Ask(%+v): %q, %v", a, b, e)
			}
		}
		for _, r := range setReply(n) {
			if b, e := Reply(r); b != nil || e != api.ErrArg {
				t.Errorf("Reply(%+v): %q, %v", r, b, e)
			}
		}
	}
}

func TestP9_1TheWholeAtMaxFrame(t *testing.T) {
	long := strings.Repeat("x", api.MaxFrame-32)
	for _, a := range []api.Ask{{Text: long}, {Val: long}, {From: long}, {To: long}, {Text: long[:9], Val: long[9:]}} {
		b, e := Ask(a)
		if len(b) != api.MaxFrame || e != api.OK {
			t.Errorf("an ask of MaxFrame bytes: %d bytes, %v", len(b), e)
		}
		if back, e := ReadAsk(b); back != a || e != api.OK {
			t.Errorf("ReadAsk of MaxFrame bytes: %v", e)
		}
		a.To += "x"
		if b, e := Ask(a); b != nil || e != api.ErrArg {
			t.Errorf("an ask of a byte more: %d bytes, %v", len(b), e)
		}
	}
	long = strings.Repeat("x", api.MaxFrame-26)
	for _, r := range []api.Reply{{Val: long}, {Next: long}, {L: []api.Record{{Text: long[:7], Val: long[15:]}}}, {Val: long[:3], L: []api.Record{{}, {}}, Next: long[19:]}} {
		b, e := Reply(r)
		if len(b) != api.MaxFrame || e != api.OK {
			t.Errorf("a reply of MaxFrame bytes: %d bytes, %v", len(b), e)
		}
		if back, e := ReadReply(b); !reflect.DeepEqual(back, r) || e != api.OK {
			t.Errorf("ReadReply of MaxFrame bytes: %v", e)
		}
		r.Val += "x"
		if b, e := Reply(r); b != nil || e != api.ErrArg {
			t.Errorf("a reply of a byte more: %d bytes, %v", len(b), e)
		}
	}
	many := api.Reply{L: make([]api.Record, 4092)} // 8 bytes each, and 26 others, are 32762
	if b, e := Reply(many); string(b) != plainReply(many) || e != api.OK {
		t.Errorf("a reply of 4092 records: %d bytes, %v", len(b), e)
	}
	checkReply(t, plainReply(many))
	many.L = make([]api.Record, 4093)
	if b, e := Reply(many); b != nil || e != api.ErrArg {
		t.Errorf("a reply of 4093 records: %d bytes, %v", len(b), e)
	}
}

func TestP9_1MoreThanMaxFrameIsLongAheadOfAllElse(t *testing.T) {
	tests := []string{
		strings.Repeat("\x00", api.MaxFrame+1),
		strings.Repeat("\xff", api.MaxFrame+1),
		strings.Repeat("\xff", api.MaxFrame+1000),
		plainAsk(api.Ask{Text: strings.Repeat("x", api.MaxFrame-31)}),
		plainReply(api.Reply{Val: strings.Repeat("x", api.MaxFrame-25)}),
	}
	for _, s := range tests {
		if a, e := ReadAsk([]byte(s)); a != (api.Ask{}) || e != api.ErrLong {
			t.Errorf("ReadAsk of %d bytes: %+v, %v", len(s), a, e)
		}
		if r, e := ReadReply([]byte(s)); !reflect.DeepEqual(r, api.Reply{}) || e != api.ErrLong {
			t.Errorf("ReadReply of %d bytes: %+v, %v", len(s), r, e)
		}
	}
	for _, s := range []string{"\x00", "\xff"} { // at MaxFrame all is well, but for what they hold
		_, e := ReadAsk([]byte(strings.Repeat(s, api.MaxFrame)))
		_, f := ReadReply([]byte(strings.Repeat(s, api.MaxFrame)))
		if e != api.ErrForm || f != api.ErrForm {
			t.Errorf("MaxFrame bytes %q: %v, %v", s, e, f)
		}
	}
}

func TestP9_1WhatIsReadMeetsItsFirstError(t *testing.T) {
	zero := strings.Repeat("\x00", 32)
	asks := []struct {
		s    string
		want api.Errno
	}{
		{"", api.ErrShort},
		{"\xff\xff\xff", api.ErrShort},                                 // the number is not there wholly, whatever it would be
		{"\x10\x00\x00\x00", api.ErrForm},                              // 2^28, met ahead of what is not there
		{"\x0f\xff\xff\xff", api.ErrShort},                             // the greatest number is one
		{zero[:16] + "\x00\x00\x00\x01", api.ErrShort},                 // a text without its byte
		{zero[:16] + "\x0f\xff\xff\xff" + zero, api.ErrShort},          // a text of more than there is
		{zero[:16] + "\x10\x00\x00\x00" + zero, api.ErrForm},           // a length that is no number
		{zero[:16] + "\x80\x00\x00\x00" + zero, api.ErrForm},           // nor below 0
		{zero + "\x00", api.ErrForm},                                   // a byte is left
		{zero[:31], api.ErrShort},                                      //
		{zero[:12] + "\xff\x00\x00\x00", api.ErrForm},                  // ahead of the texts that are not there
		{zero[:16] + "\x00\x00\x00\x02a", api.ErrShort},                //
		{"\x00\x00\x00\x09" + zero[:8] + "\x20\x00\x00", api.ErrShort}, //
	}
	for _, x := range asks {
		if a, e := ReadAsk([]byte(x.s)); a != (api.Ask{}) || e != x.want {
			t.Errorf("ReadAsk(%q): %+v, %v, want %v", x.s, a, e, x.want)
		}
		checkAsk(t, x.s)
	}
	replies := []struct {
		s    string
		want api.Errno
	}{
		{"", api.ErrShort},
		{zero[:12], api.ErrShort},                                            // Found is not there
		{zero[:12] + "\x02", api.ErrForm},                                    // no truth
		{zero[:12] + "\xff" + zero[:13], api.ErrForm},                        //
		{zero[:25], api.ErrShort},                                            // More is not there
		{zero[:25] + "\x02", api.ErrForm},                                    //
		{zero[:25] + "\x80", api.ErrForm},                                    //
		{zero[:26] + "\x00", api.ErrForm},                                    // a byte is left
		{zero[:25] + "\x02\x00", api.ErrForm},                                //
		{zero[:17] + "\x10\x00\x00\x00", api.ErrForm},                        // how many records is no number
		{zero[:17] + "\x0f\xff\xff\xff", api.ErrShort},                       // many records that are not there
		{zero[:17] + "\x0f\xff\xff\xff" + zero, api.ErrShort},                //
		{zero[:17] + "\x00\x00\x00\x01" + zero[:8] + zero[:4], api.ErrShort}, // Next is there, More is not
		{zero[:17] + "\x00\x00\x00\x02" + zero[:8] + "\xff\x00\x00\x00", api.ErrForm},
		{zero[:12] + "\x03" + "\xff\xff", api.ErrForm}, // the truth is met ahead of the text
		{"\xff\xff\xff\xff" + zero[:8] + "\x03", api.ErrForm},
	}
	for _, x := range replies {
		if r, e := ReadReply([]byte(x.s)); !reflect.DeepEqual(r, api.Reply{}) || e != x.want {
			t.Errorf("ReadReply(%q): %+v, %v, want %v", x.s, r, e, x.want)
		}
		checkReply(t, x.s)
	}
}

func TestP9_1EachPlaceToCutAndEachByteChanged(t *testing.T) {
	ask, reply := plainAsk(fullAsk()), plainReply(fullReply())
	for _, more := range []string{"", "\x00", "\x01", "abc"} {
		for i := range ask {
			checkAsk(t, ask[:i]+more)
			for x := range 256 {
				checkAsk(t, ask[:i]+string([]byte{byte(x)})+ask[i+1:]+more)
			}
		}
		for i := range reply {
			checkReply(t, reply[:i]+more)
			for x := range 256 {
				checkReply(t, reply[:i]+string([]byte{byte(x)})+reply[i+1:]+more)
			}
		}
		checkAsk(t, ask+more)
		checkReply(t, reply+more)
	}
}

// some answers a text that looks like any.
func some(roll func(int) int) string {
	b := make([]byte, roll(5))
	for i := range b {
		b[i] = byte(roll(256))
	}
	return string(b)
}

func someReply(roll func(int) int) api.Reply {
	r := api.Reply{Client: roll(1 << 28), Seq: roll(300), Err: api.Errno(roll(15)), Found: roll(2) == 0, Val: some(roll), Next: some(roll), More: roll(2) == 0}
	for range roll(4) {
		r.L = append(r.L, api.Record{Text: some(roll), Val: some(roll)})
	}
	return r
}

func TestP9_1AnyThereAndBack(t *testing.T) {
	roll := dice()
	for range 20000 {
		a := api.Ask{Do: roll(1 << 28), Client: roll(300), Seq: roll(1 << 20), Limit: roll(20), Text: some(roll), Val: some(roll), From: some(roll), To: some(roll)}
		b, e := Ask(a)
		if string(b) != plainAsk(a) || e != api.OK {
			t.Fatalf("Ask(%+v): %q, %v", a, b, e)
		}
		if back, e := ReadAsk(b); back != a || e != api.OK {
			t.Fatalf("ReadAsk(%q): %+v, %v", b, back, e)
		}
		r := someReply(roll)
		b, e = Reply(r)
		if string(b) != plainReply(r) || e != api.OK {
			t.Fatalf("Reply(%+v): %q, %v", r, b, e)
		}
		if back, e := ReadReply(b); !reflect.DeepEqual(back, r) || e != api.OK {
			t.Fatalf("ReadReply(%q): %+v, %v", b, back, e)
		}
	}
}

func TestP9_1AnyBytes(t *testing.T) {
	roll := dice()
	low := []byte{0, 0, 0, 0, 0, 0, 1, 1, 2, 4, 15, 16, 255}
	for range 200000 {
		b := make([]byte, roll(60))
		for i := range b {
			b[i] = low[roll(1+roll(len(low)))]
		}
		checkAsk(t, string(b))
		checkReply(t, string(b))
	}
}

// itself packs a text as its bytes, and back reads it.
func itself(s string) []byte { return []byte(s) }

func back(b []byte) (string, api.Errno) { return string(b), api.OK }

func TestP9_2List(t *testing.T) {
	tests := []struct {
		l    []string
		want string
	}{
		{nil, "\x00\x00\x00\x00"},
		{[]string{}, "\x00\x00\x00\x00"},
		{[]string{""}, "\x00\x00\x00\x01\x00\x00\x00\x00"},
		{[]string{"a"}, "\x00\x00\x00\x01\x00\x00\x00\x01a"},
		{[]string{"", "bc", "\xff"}, "\x00\x00\x00\x03\x00\x00\x00\x00\x00\x00\x00\x02bc\x00\x00\x00\x01\xff"},
	}
	for _, x := range tests {
		if got := List(x.l, itself); string(got) != x.want {
			t.Errorf("List(%q): %q, want %q", x.l, got, x.want)
		}
		if l, e := ReadList([]byte(x.want), back); !slices.Equal(l, x.l) || e != api.OK {
			t.Errorf("ReadList(%q): %q, %v", x.want, l, e)
		}
	}
}

func TestP9_2ListOfAnyType(t *testing.T) {
	l := []api.Record{{Text: "a", Val: "b"}, {}, {Text: "ccc"}}
	b := List(l, func(x api.Record) []byte { return []byte(x.Text + "=" + x.Val) })
	if want := plainList([]string{"a=b", "=", "ccc="}); string(b) != want {
		t.Errorf("List: %q, want %q", b, want)
	}
	got, e := ReadList(b, func(b []byte) (api.Record, api.Errno) {
		text, val, _ := strings.Cut(string(b), "=")
		return api.Record{Text: text, Val: val}, api.OK
	})
	if !slices.Equal(got, l) || e != api.OK {
		t.Errorf("ReadList: %v, %v", got, e)
	}
	asks := []api.Ask{fullAsk(), {}}
	b = List(asks, func(a api.Ask) []byte { b, _ := Ask(a); return b })
	if got, e := ReadList(b, ReadAsk); !slices.Equal(got, asks) || e != api.OK {
		t.Errorf("ReadList of asks: %v, %v", got, e)
	}
	b[8+3]++ // the length of the first ask is its own still; its first number is not below 2^28
	b[8] = 255
	if got, e := ReadList(b, ReadAsk); got != nil || e != api.ErrForm {
		t.Errorf("ReadList of asks, one changed: %v, %v", got, e)
	}
	ints := List([]int{0, 255, 7}, func(n int) []byte { return []byte{byte(n)} })
	if want := "\x00\x00\x00\x03\x00\x00\x00\x01\x00\x00\x00\x00\x01\xff\x00\x00\x00\x01\x07"; string(ints) != want {
		t.Errorf("List of numbers: %q", ints)
	}
}

func TestP9_2ListAtItsBounds(t *testing.T) {
	nothing := func(struct{}) []byte { return nil }
	if b := List(make([]struct{}, 1<<20), nothing); len(b) != 4+4<<20 || string(b[:4]) != "\x00\x10\x00\x00" {
		t.Errorf("List of 2^20 items: %d bytes", len(b))
	}
	if b := List(make([]struct{}, 1<<20+1), nothing); b != nil {
		t.Errorf("List of 2^20 + 1 items: %d bytes", len(b))
	}
	if b := List[int](nil, nil); b != nil {
		t.Errorf("List with a nil function: %q", b)
	}
	if b := List([]int{1}, nil); b != nil {
		t.Errorf("List with a nil function: %q", b)
	}
	long := bytes.Repeat([]byte{5}, 3*api.MaxFrame)
	want := "\x00\x00\x00\x02\x00\x01\x80\x00" + string(long) + "\x00\x01\x80\x00" + string(long)
	b := List(make([]int, 2), func(int) []byte { return long })
	if string(b) != want {
		t.Errorf("List of long items: %d bytes", len(b))
	}
	if l, e := ReadList(b, back); !slices.Equal(l, []string{string(long), string(long)}) || e != api.OK {
		t.Errorf("ReadList of long items: %d items, %v", len(l), e)
	}
}

func TestP9_2ReadListOfMoreItemsThanListTakes(t *testing.T) {
	many := 1<<20 + 1
	l, e := ReadList([]byte(num(many)+strings.Repeat("\x00", 4*many)), back)
	if len(l) != many || e != api.OK {
		t.Errorf("%d items, %v", len(l), e)
	}
}

// plainReadList answers what is met first, with one that refuses what begins with bad.
func plainReadList(s, bad string) ([]string, api.Errno) {
	if len(s) < 4 {
		return nil, api.ErrShort
	}
	if s[0] >= 16 {
		return nil, api.ErrForm
	}
	n := int(s[0])*16777216 + int(s[1])*65536 + int(s[2])*256 + int(s[3])
	s = s[4:]
	var l []string
	for range n {
		if e := plainEnd(s, "t"); e == api.ErrShort || len(s) >= 4 && s[0] >= 16 {
			return nil, e
		}
		size := int(s[2])*256 + int(s[3])
		item := s[4 : 4+size]
		s = s[4+size:]
		if strings.HasPrefix(item, bad) {
			return nil, api.ErrTable
		}
		l = append(l, item)
	}
	if s != "" {
		return nil, api.ErrForm
	}
	return l, api.OK
}

func TestP9_2ReadListMeetsItsFirstError(t *testing.T) {
	refuses := func(b []byte) (string, api.Errno) {
		if bytes.HasPrefix(b, []byte("b")) {
			return "what is beside an error", api.ErrTable
		}
		return string(b), api.OK
	}
	check := func(s string) {
		t.Helper()
		want, e := plainReadList(s, "b")
		l, f := ReadList([]byte(s), refuses)
		if !slices.Equal(l, want) || f != e || f != api.OK && l != nil {
			t.Fatalf("ReadList(%q): %q, %v, want %q, %v", s, l, f, want, e)
		}
	}
	tests := []struct {
		s    string
		want api.Errno
	}{
		{"", api.ErrShort},
		{"\x00\x00\x00", api.ErrShort},
		{"\x00\x00\x00\x01", api.ErrShort},
		{"\x0f\xff\xff\xff", api.ErrShort},
		{"\x0f\xff\xff\xff" + text("a"), api.ErrShort},
		{"\x10\x00\x00\x00", api.ErrForm},
		{num(0) + "\x00", api.ErrForm},
		{num(1) + text("a") + "b", api.ErrForm},
		{num(1) + "\x10\x00\x00\x00", api.ErrForm},
		{num(1) + "\x00\x00\x00\x02a", api.ErrShort},
		{num(1) + text("b"), api.ErrTable},
		{num(1) + text("b") + "x", api.ErrTable},          // ahead of what is left
		{num(2) + text("b"), api.ErrTable},                // ahead of what is not there
		{num(2) + text("a") + num(9) + "b", api.ErrShort}, // what is not there wholly is not handed on
		{num(3) + text("a") + text("b") + "\xff\xff\xff\xff", api.ErrTable},
		{num(3) + text("a") + "\xff\xff\xff\xff" + text("b"), api.ErrForm},
	}
	for _, x := range tests {
		if l, e := ReadList([]byte(x.s), refuses); l != nil || e != x.want {
			t.Errorf("ReadList(%q): %q, %v, want %v", x.s, l, e, x.want)
		}
		check(x.s)
	}
	whole := plainList([]string{"a", "", "bc", "\xff", "a"})
	for i := range whole {
		check(whole[:i])
		for x := range 256 {
			check(whole[:i] + string([]byte{byte(x)}) + whole[i+1:])
		}
	}
	roll := dice()
	low := []byte{0, 0, 0, 0, 0, 0, 1, 1, 2, 3, 'b', 15, 16, 255}
	for range 200000 {
		b := make([]byte, roll(30))
		for i := range b {
			b[i] = low[roll(1+roll(len(low)))]
		}
		check(string(b))
	}
}

func TestP9_2EachItemIsAskedOnceInOrder(t *testing.T) {
	var asked []string
	b := List([]string{"x", "", "y"}, func(s string) []byte {
		asked = append(asked, s)
		return []byte(s)
	})
	if !slices.Equal(asked, []string{"x", "", "y"}) {
		t.Errorf("List asked %q", asked)
	}
	asked = nil
	l, e := ReadList(append(b, 9), func(b []byte) (int, api.Errno) {
		asked = append(asked, string(b))
		return len(b), api.OK
	})
	if !slices.Equal(asked, []string{"x", "", "y"}) || l != nil || e != api.ErrForm {
		t.Errorf("ReadList asked %q: %v, %v", asked, l, e)
	}
}

func TestP9_2NilAndPanickingFunctions(t *testing.T) {
	for _, s := range []string{"", "\x00\x00\x00\x00", plainList([]string{"a"}), "\xff\xff\xff\xff", "\x00\x00\x00\x00x"} {
		if l, e := ReadList[int]([]byte(s), nil); l != nil || e != api.ErrArg {
			t.Errorf("ReadList(%q, nil): %v, %v", s, l, e)
		}
	}
	asked := 0
	l, e := ReadList([]byte(plainList([]string{"a", "b"})), func(b []byte) (int, api.Errno) {
		if asked++; asked == 2 {
			panic("no")
		}
		return 5, api.OK
	})
	if l != nil || e != api.ErrArg {
		t.Errorf("ReadList with one that panics: %v, %v", l, e)
	}
	asked = 0
	b := List([]int{1, 2}, func(n int) []byte {
		if asked++; asked == 2 {
			panic("no")
		}
		return []byte{5}
	})
	if b != nil {
		t.Errorf("List with one that panics: %q", b)
	}
}

// spare answers the bytes of s with room behind them that is full of marks.
func spare(s string) []byte { return append([]byte(s), "marks"...)[: len(s) : len(s)+5] }

func unchanged(t *testing.T, what string, b []byte, s string) {
	t.Helper()
	if string(b[:cap(b)]) != s+"marks" {
		t.Errorf("%s changed what was handed in, or its spare room: %q", what, b[:cap(b)])
	}
}

func TestR4NothingIsChangedOrKept(t *testing.T) {
	ask, reply := plainAsk(fullAsk()), plainReply(fullReply())
	b := spare(ask)
	a, _ := ReadAsk(b)
	unchanged(t, "ReadAsk", b, ask)
	clear(b)
	if a != fullAsk() {
		t.Errorf("ReadAsk kept: %+v", a)
	}
	b = spare(reply)
	r, _ := ReadReply(b)
	unchanged(t, "ReadReply", b, reply)
	clear(b)
	if !reflect.DeepEqual(r, fullReply()) {
		t.Errorf("ReadReply kept: %+v", r)
	}
	r.L = append(r.L, api.Record{Text: "mark"})[:3]
	packed, _ := Reply(r)
	if r.L[:4][3].Text != "mark" || string(packed) != reply {
		t.Errorf("Reply changed spare room: %+v", r.L[:4])
	}
	reader := NewReader(spare("\x00\x00\x00\x07"))
	if reader.Number() != 7 {
		t.Error("NewReader")
	}
}

func TestR4ListsOwnTheirMemory(t *testing.T) {
	whole := plainList([]string{"ab", "", "cd"})
	b := spare(whole)
	l, e := ReadList(b, func(x []byte) ([]byte, api.Errno) {
		for i := range x[:cap(x)] { // one may do with it what it likes
			x[:cap(x)][i] ^= 32
		}
		return x, api.OK
	})
	unchanged(t, "ReadList", b, whole)
	clear(b[:cap(b)])
	if e != api.OK || len(l) != 3 || string(l[0]) != "AB" || len(l[1]) != 0 || string(l[2]) != "CD" {
		t.Fatalf("ReadList: %q, %v", l, e)
	}
	for i, x := range l {
		full := x[:cap(x)]
		for j := range full {
			full[j] = byte('0' + i)
		}
	}
	if string(l[0]) != "00" || string(l[2]) != "22" {
		t.Errorf("items share memory: %q", l)
	}
	row := spare("x")
	out := List([]int{1, 2}, func(int) []byte { return row })
	unchanged(t, "List", row, "x")
	row[0] = 'y'
	if string(out) != plainList([]string{"x", "x"}) {
		t.Errorf("List kept: %q", out)
	}
	items := append([]string{"a"}, "mark")[:1]
	List(items, itself)
	if items[0] != "a" || items[:2][1] != "mark" {
		t.Errorf("List changed %q", items[:2])
	}
}

func TestR4NoTwoAnswersShare(t *testing.T) {
	a, _ := Ask(api.Ask{})
	b, _ := Ask(api.Ask{})
	for i := range a[:cap(a)] {
		a[:cap(a)][i] = 1
	}
	if string(b[:32]) != strings.Repeat("\x00", 32) {
		t.Errorf("two asks share: %q", b)
	}
	p := NewPacker(100)
	p.Numbers(1)
	first, _ := p.Packed()
	p.Numbers(2)
	second, e := p.Packed()
	first = append(first, "xxxx"...)
	if string(first[:4]) != num(1) || string(second) != num(2) || e != api.OK {
		t.Errorf("a packer's answers: %q, %q", first, second)
	}
}

func TestR1MuchThatIsRefusedEndsSoon(t *testing.T) {
	zero := strings.Repeat("\x00", 17)
	for range 1000 { // 2^28 records that are not there
		if _, e := ReadReply([]byte(zero + "\x0f\xff\xff\xff")); e != api.ErrShort {
			t.Fatal(e)
		}
		if _, e := ReadList([]byte("\x0f\xff\xff\xff"), back); e != api.ErrShort {
			t.Fatal(e)
		}
	}
	long := strings.Repeat("x", 1<<20)
	r := api.Reply{L: slices.Repeat([]api.Record{{Text: long, Val: long}}, 1<<18)} // 2^39 bytes, were they laid
	if b, e := Reply(r); b != nil || e != api.ErrArg {
		t.Errorf("Reply of much: %d bytes, %v", len(b), e)
	}
	if b := List([]int{1}, func(int) []byte { return make([]byte, 1<<28) }); b != nil {
		t.Errorf("List of an item that is too long for a text: %d bytes", len(b))
	}
}

func TestPackerRefuses(t *testing.T) {
	p := NewPacker(9)
	p.Numbers(1)
	p.Truth(true)
	p.Texts("")
	if b, e := p.Packed(); string(b) != "\x00\x00\x00\x01\x01\x00\x00\x00\x00" || e != api.OK {
		t.Errorf("what there is room for: %q, %v", b, e)
	}
	if b, e := p.Packed(); len(b) != 0 || e != api.OK {
		t.Errorf("behind Packed: %q, %v", b, e)
	}
	tests := []func(p *Packer){
		func(p *Packer) { p.Texts("abcdef") },
		func(p *Packer) { p.Numbers(1, 2, 3) },
		func(p *Packer) { p.Numbers(-1) },
		func(p *Packer) { p.Numbers(1 << 28) },
		func(p *Packer) { p.Numbers(1 << 28); p.Numbers(1) },
		func(p *Packer) { p.Numbers(1, 2); p.Truth(false); p.Truth(false) },
	}
	for i, do := range tests {
		do(p)
		if b, e := p.Packed(); b != nil || e != api.ErrArg {
			t.Errorf("%d: %q, %v", i, b, e)
		}
		p.Numbers(5)
		if b, e := p.Packed(); string(b) != num(5) || e != api.OK {
			t.Errorf("%d, anew: %q, %v", i, b, e)
		}
	}
	for _, most := range []int{-1, 0, math.MinInt} {
		p := NewPacker(most)
		p.Truth(true)
		if b, e := p.Packed(); b != nil || e != api.ErrArg {
			t.Errorf("room for %d: %q, %v", most, b, e)
		}
	}
}

func TestItemsThereAndBack(t *testing.T) {
	tests := [][]api.Record{nil, {{}}, {{Text: "a", Val: "b"}, {}, {Val: "\xff\x00"}}}
	for _, l := range tests {
		p := NewPacker(1000)
		p.Numbers(7)
		Items(p, l, (*Packer).Record)
		p.Texts("z")
		want := num(7) + num(len(l))
		for _, x := range l {
			want += text(x.Text) + text(x.Val)
		}
		want += text("z")
		b, e := p.Packed()
		if string(b) != want || e != api.OK {
			t.Errorf("Items(%v): %q, %v, want %q", l, b, e, want)
		}
		r := NewReader(b)
		if n, got, s, e := r.Number(), ReadItems(r, (*Reader).Record), r.Text(), r.End(); n != 7 || !reflect.DeepEqual(got, l) || s != "z" || e != api.OK {
			t.Errorf("ReadItems(%q): %d, %v, %q, %v", b, n, got, s, e)
		}
		for i := range b {
			r := NewReader(b[:i])
			r.Number()
			if got, s, e := ReadItems(r, (*Reader).Record), r.Text(), r.End(); i < len(b)-5 && got != nil || s != "" || e != api.ErrShort {
				t.Errorf("ReadItems(%q): %v, %q, %v", b[:i], got, s, e)
			}
		}
	}
}

func TestItemsAtTheirBounds(t *testing.T) {
	nothing := func(*Packer, struct{}) {}
	p := NewPacker(100)
	Items(p, make([]struct{}, 1<<20), nothing)
	if b, e := p.Packed(); string(b) != num(1<<20) || e != api.OK {
		t.Errorf("2^20 items: %q, %v", b, e)
	}
	asked := 0
	Items(p, make([]struct{}, 1<<20+1), func(*Packer, struct{}) { asked++ })
	if b, e := p.Packed(); b != nil || e != api.ErrArg || asked != 0 {
		t.Errorf("2^20 + 1 items: %q, %v, %d asked", b, e, asked)
	}
	Items(p, []int{1, 1 << 28}, func(p *Packer, n int) { p.Numbers(n) })
	if b, e := p.Packed(); b != nil || e != api.ErrArg {
		t.Errorf("an item that is refused: %q, %v", b, e)
	}
	asked = 0
	r := NewReader([]byte("\x0f\xff\xff\xff" + num(1) + num(2)))
	l := ReadItems(r, func(r *Reader) int { asked++; return r.Number() })
	if e := r.End(); l != nil || e != api.ErrShort || asked != 3 {
		t.Errorf("items that are not there: %v, %v, %d asked", l, e, asked)
	}
}

func TestPartsThatAreRefused(t *testing.T) {
	p := NewPacker(100)
	p.Part([]byte("ab"), api.OK)
	p.Part(nil, api.OK)
	if b, e := p.Packed(); string(b) != text("ab")+text("") || e != api.OK {
		t.Errorf("two parts: %q, %v", b, e)
	}
	p.Numbers(1)
	p.Part([]byte("ab"), api.ErrState)
	p.Numbers(1)
	if b, e := p.Packed(); b != nil || e != api.ErrArg {
		t.Errorf("a part with an error: %q, %v", b, e)
	}
	refuses := func(b []byte) (string, api.Errno) {
		if string(b) == "no" {
			return "what is beside an error", api.ErrTable
		}
		return string(b), api.OK
	}
	r := NewReader([]byte(text("yes") + text("no") + text("yes")))
	if s, no, behind, e := ReadPart(r, refuses), ReadPart(r, refuses), ReadPart(r, refuses), r.End(); s != "yes" || no != "" || behind != "" || e != api.ErrTable {
		t.Errorf("ReadPart: %q, %q, %q, %v", s, no, behind, e)
	}
	asked := 0
	r = NewReader([]byte(text("yes")[:6]))
	if n, e := ReadPart(r, func([]byte) (int, api.Errno) { asked++; return 1, api.ErrTable }), r.End(); n != 0 || e != api.ErrShort || asked != 0 {
		t.Errorf("ReadPart of what is not there wholly: %d, %v, %d asked", n, e, asked)
	}
}

func TestReaderBehindAnError(t *testing.T) {
	r := NewReader([]byte("\xff\xff\xff\xff" + "\x00\x00\x00\x01" + "\x01"))
	if n := r.Number(); n != 0 {
		t.Errorf("a number above the greatest: %d", n)
	}
	if n, s, b, e := r.Number(), r.Text(), r.Truth(), r.End(); n != 0 || s != "" || b || e != api.ErrForm {
		t.Errorf("behind it: %d, %q, %v, %v", n, s, b, e)
	}
	r = NewReader([]byte("\x01\x00\x00"))
	if b, n, e := r.Truth(), r.Number(), r.End(); !b || n != 0 || e != api.ErrShort {
		t.Errorf("a number not there wholly: %v, %d, %v", b, n, e)
	}
	if b, e := r.Truth(), r.End(); b || e != api.ErrShort {
		t.Errorf("behind it: %v, %v", b, e)
	}
	r = NewReader([]byte("\x01\x02\x03"))
	if b, c, d, e := r.Truth(), r.Truth(), r.Truth(), r.End(); !b || c || d || e != api.ErrForm {
		t.Errorf("a truth that is none: %v, %v, %v, %v", b, c, d, e)
	}
	if e := NewReader(nil).End(); e != api.OK {
		t.Errorf("nothing to read: %v", e)
	}
}

func TestR7Nil(t *testing.T) {
	var p *Packer
	p.Numbers(1, -1)
	p.Texts("a")
	p.Truth(true)
	p.Record(api.Record{Text: "a"})
	p.Part([]byte("a"), api.OK)
	p.Part(nil, api.ErrArg)
	Items(p, []api.Record{{}}, (*Packer).Record)
	Items[int](p, nil, nil)
	if b, e := p.Packed(); b != nil || e != api.ErrArg {
		t.Errorf("a nil packer: %q, %v", b, e)
	}
	p = NewPacker(100)
	Items[int](p, nil, nil)
	if b, e := p.Packed(); b != nil || e != api.ErrArg {
		t.Errorf("items without a function: %q, %v", b, e)
	}
	var r *Reader
	if n, s, b, e := r.Number(), r.Text(), r.Truth(), r.End(); n != 0 || s != "" || b || e != api.ErrArg {
		t.Errorf("a nil reader: %d, %q, %v, %v", n, s, b, e)
	}
	if x, s, l, e := r.Record(), ReadPart(r, back), ReadItems(r, (*Reader).Record), r.End(); x != (api.Record{}) || s != "" || l != nil || e != api.ErrArg {
		t.Errorf("a nil reader: %v, %q, %v, %v", x, s, l, e)
	}
	tests := map[string]api.Errno{"\x01" + num(0): api.ErrArg, "\x01" + num(1) + "a": api.ErrArg, "\x02" + num(0): api.ErrForm}
	for s, want := range tests { // an error that was met ahead of the nil function is told
		part, items := NewReader([]byte(s)), NewReader([]byte(s))
		part.Truth()
		items.Truth()
		n, l := ReadPart[int](part, nil), ReadItems[int](items, nil)
		if e, f := part.End(), items.End(); n != 0 || l != nil || e != want || f != want {
			t.Errorf("%q, without a function: %d, %v, %v, %v, want %v", s, n, l, e, f, want)
		}
	}
	for i, e := range []api.Errno{errOf(ReadAsk(nil)), errOf(ReadReply(nil)), errOf(ReadList(nil, back))} {
		if e != api.ErrShort {
			t.Errorf("%d: nothing to read: %v", i, e)
		}
	}
}

func errOf[T any](_ T, e api.Errno) api.Errno { return e }

func FuzzRead(f *testing.F) {
	f.Add([]byte(plainAsk(fullAsk())))
	f.Add([]byte(plainReply(fullReply())))
	f.Fuzz(func(t *testing.T, b []byte) {
		if len(b) <= api.MaxFrame {
			checkAsk(t, string(b))
			checkReply(t, string(b))
		}
	})
}

func ExampleAsk() {
	b, e := Ask(api.Ask{Do: 1, Text: "a"})
	fmt.Printf("% x %v", b, e)
	// Output: 00 00 00 01 00 00 00 00 00 00 00 00 00 00 00 00 00 00 00 01 61 00 00 00 00 00 00 00 00 00 00 00 00 ok
}
