package note

import (
	"bytes"
	"reflect"
	"slices"
	"strings"
	"testing"

	"gazetteer/api"
	"gazetteer/atlas"
	"gazetteer/once"
)

// checkRead holds Read of any bytes against the promise: either they are none, or the note that they are may be, and has just these.
func checkRead(t *testing.T, b []byte) bool {
	t.Helper()
	n, e := Read(b)
	if e != api.OK {
		if e != api.ErrForm || !isZero(n) {
			t.Fatalf("Read(%q): %+v, %v", b, n, e)
		}
		return false
	}
	c, f := Pack(n)
	if !May(n) || f != api.OK || !bytes.Equal(b, c) {
		t.Fatalf("Read(%q): %+v, whose bytes are %q, %v", b, n, c, f)
	}
	return true
}

// Things that look like any.

func someText(roll func(int) int) string {
	b := make([]byte, roll(1+roll(6)))
	for i := range b {
		b[i] = byte(roll(256))
	}
	return string(b)
}

func someNumber(roll func(int) int) int { return roll(1 << (1 + roll(28))) }

func someList[T any](roll func(int) int, one func(func(int) int) T) []T {
	var l []T
	for range roll(5) {
		l = append(l, one(roll))
	}
	return l
}

func someSpan(roll func(int) int) api.Span {
	return api.Span{From: someText(roll), To: someText(roll)}
}

func someRecord(roll func(int) int) api.Record {
	return api.Record{Text: someText(roll), Val: someText(roll)}
}

func someReply(roll func(int) int) api.Reply {
	return api.Reply{
		Client: someNumber(roll), Seq: someNumber(roll), Err: api.Errno(roll(15)), Found: roll(2) == 0, Val: someText(roll),
		L: someList(roll, someRecord), Next: someText(roll), More: roll(2) == 0,
	}
}

func someLast(roll func(int) int) once.Last {
	return once.Last{Seq: someNumber(roll), Reply: someReply(roll)}
}

func someAtlas(roll func(int) int) atlas.Atlas {
	a := atlas.First(1 + roll(5))
	for range roll(16) {
		b, e := a, api.OK
		switch roll(3) {
		case 0:
			b, _, e = atlas.Split(a, someText(roll))
		case 1:
			b, _, e = atlas.Merge(a, roll(12))
		default:
			b, _, e = atlas.Move(a, roll(12), 1+roll(5), 5)
		}
		if e == api.OK {
			a = b
		}
	}
	return a
}

// some answers a note that may be.
func some(roll func(int) int) Note {
	parties := []int{0, 1, 2, 3, 4, 5, 100, 101, 102, 103}
	n := Note{Kind: 1 + roll(12), From: parties[roll(10)]}
	n.To = n.From
	for n.To == n.From {
		n.To = parties[roll(10)]
	}
	for _, name := range has[n.Kind] {
		switch name {
		case "Epoch":
			n.Epoch = someNumber(roll)
		case "Tick":
			n.Tick = someNumber(roll)
		case "Ask":
			n.Ask = api.Ask{Do: roll(5), Client: someNumber(roll), Seq: someNumber(roll), Limit: roll(20), Text: someText(roll), Val: someText(roll), From: someText(roll), To: someText(roll)}
		case "Reply":
			n.Reply = someReply(roll)
		case "Span":
			n.Span = someSpan(roll)
		case "L":
			n.L = someList(roll, someRecord)
		case "Last":
			n.Last = someList(roll, someLast)
		case "Atlas":
			n.Atlas = someAtlas(roll)
		}
	}
	return n
}

func TestP16_2AnyThereAndBack(t *testing.T) {
	roll := dice()
	seen := map[string]Note{}
	for range 20000 {
		n := some(roll)
		b, e := Pack(n)
		back, f := Read(b)
		if !May(n) || e != api.OK || f != api.OK || !reflect.DeepEqual(back, n) {
			t.Fatalf("%+v: %v, %v, %+v", n, e, f, back)
		}
		if !checkRead(t, b) {
			t.Fatal("it is none")
		}
		if other, ok := seen[string(b)]; ok && !reflect.DeepEqual(other, n) {
			t.Fatalf("two notes have the same bytes: %+v, %+v", other, n)
		}
		seen[string(b)] = n
	}
	if len(seen) < 15000 {
		t.Errorf("%d notes", len(seen))
	}
}

// plainMay tells, of a note each of whose parts is as parcel and atlas take it, or nothing, whether it may be.
func plainMay(n Note) bool {
	parties := []int{0, 1, 2, 3, 4, 5, 100, 101, 102, 103}
	if !slices.Contains(parties, n.From) || !slices.Contains(parties, n.To) || n.From == n.To {
		return false
	}
	for _, name := range parts {
		if !field(&n, name).IsZero() && !slices.Contains(has[n.Kind], name) {
			return false
		}
	}
	return len(n.Atlas.L) > 0 || !slices.Contains(has[n.Kind], "Atlas")
}

// parts are the fields that a note has beside its kind and its parties.
var parts = []string{"Epoch", "Tick", "Ask", "Reply", "Span", "L", "Last", "Atlas"}

func TestP16_2AnyNoteWithAPartOfAnother(t *testing.T) {
	roll := dice()
	names := slices.Concat([]string{"Kind", "From", "To"}, parts)
	many := 0
	for range 50000 {
		n, other := some(roll), some(roll)
		name := names[roll(len(names))]
		field(&n, name).Set(field(&other, name))
		may := plainMay(n)
		check(t, n, n, may)
		if may {
			many++
		}
	}
	if many < 10000 || many > 45000 {
		t.Errorf("%d of 50000 may be", many)
	}
}

func TestP16_2EachPlaceToCutAndEachByteChanged(t *testing.T) {
	for _, kind := range kinds() {
		b, e := Pack(full(kind))
		if e != api.OK {
			t.Fatal(e)
		}
		for i := range b {
			if checkRead(t, b[:i]) {
				t.Errorf("kind %d: %d bytes of %d are a note", kind, i, len(b))
			}
			for x := range 256 {
				c := bytes.Clone(b)
				c[i] = byte(x)
				checkRead(t, c)
			}
			checkRead(t, slices.Delete(bytes.Clone(b), i, i+1))
			checkRead(t, slices.Insert(bytes.Clone(b), i, 0))
		}
		for _, more := range []string{"\x00", "\x01", "\xff", "abc", strings.Repeat("\x00", 100), string(b)} {
			if checkRead(t, append(bytes.Clone(b), more...)) || checkRead(t, append([]byte(more), b...)) {
				t.Errorf("kind %d: with %q it is a note", kind, more)
			}
		}
	}
}

func TestP16_2AnyBytes(t *testing.T) {
	roll := dice()
	low := []byte{0, 0, 0, 0, 0, 0, 1, 2, 3, 8, 15, 16, 32, 100, 255}
	for range 100000 {
		b := make([]byte, roll(200))
		for i := range b {
			b[i] = low[roll(1+roll(len(low)))]
		}
		checkRead(t, b)
	}
	notes := 0
	for range 50000 { // notes, but for some bytes
		b, _ := Pack(some(roll))
		for range 1 + roll(3) {
			b[roll(len(b))] = low[roll(len(low))]
		}
		if checkRead(t, b) {
			notes++
		}
	}
	if notes < 1000 || notes > 49000 {
		t.Errorf("%d of 50000 are notes", notes)
	}
}

// num is a number as parcel writes it.
func num(n int) string {
	return string([]byte{byte(n / 16777216), byte(n / 65536 % 256), byte(n / 256 % 256), byte(n % 256)})
}

func TestP16_2BytesThatAreNone(t *testing.T) {
	ask, _ := Pack(Note{Kind: Ask, From: 100})
	a, tail := string(ask[:20]), string(ask[56:]) // five numbers; an ask of 32 bytes, its length ahead; the others
	for _, more := range []int{0, 1, 1000} {
		size := frame + more
		long := num(0) + num(0) + num(0) + num(0) + num(size-32) + strings.Repeat("x", size-32) + num(0) + num(0) + num(0)
		if got := checkRead(t, []byte(a+num(size)+long+tail)); got != (more == 0) {
			t.Errorf("with an ask of %d bytes it is a note: %v", size, got)
		}
	}
	install, _ := Pack(Note{Kind: Install, To: 1})
	head := string(install[:len(install)-16]) // how many records and last answers; an atlas' epoch, how many shards
	for _, many := range []int{1 << 20, 1<<20 + 1} {
		b := []byte(head + num(many) + strings.Repeat(num(0)+num(0), many) + num(0) + num(0) + num(0))
		if got := checkRead(t, b); got != (many == 1<<20) {
			t.Errorf("with %d records it is a note: %v", many, got)
		}
	}
	for _, b := range [][]byte{nil, {}, {0}, make([]byte, 118), make([]byte, 1000), bytes.Repeat([]byte{255}, 200)} {
		if checkRead(t, b) {
			t.Errorf("%q is a note", b)
		}
	}
}

func TestR1HowManyThereAreSaidToBeIsNotTrusted(t *testing.T) {
	install, _ := Pack(Note{Kind: Install, To: 1})
	for _, at := range []int{16, 12, 4} { // of records, last answers, shards
		for range 1000 {
			b := bytes.Clone(install)
			copy(b[len(b)-at:], "\x0f\xff\xff\xff")
			if checkRead(t, b) {
				t.Fatalf("%d from the end: it is a note", at)
			}
		}
	}
}

func TestP16_2AGreatNote(t *testing.T) {
	n := Note{Kind: Install, To: 1, Epoch: 1, L: make([]api.Record, 5000), Last: make([]once.Last, 50)}
	for i := range n.L {
		n.L[i] = api.Record{Text: strings.Repeat("t", 64), Val: strings.Repeat("v", i%65)}
	}
	for i := range n.Last {
		n.Last[i] = once.Last{Seq: i, Reply: api.Reply{Client: i, Seq: i, Val: strings.Repeat("w", 30000)}}
	}
	check(t, "a great note", n, true)
}

func TestR4WhatIsHandedInStaysAndIsNotKept(t *testing.T) {
	for _, kind := range kinds() {
		n, was := full(kind), full(kind)
		n.L, n.Last, n.Atlas.L = withRoom(n.L), withRoom(n.Last), withRoom(n.Atlas.L)
		n.Reply.L = withRoom(n.Reply.L)
		May(n)
		b, _ := Pack(n)
		if len(n.L) != len(was.L) || !reflect.DeepEqual(n.L[:cap(n.L)], withRoom(was.L)[:cap(n.L)]) ||
			!reflect.DeepEqual(n.Last[:cap(n.Last)], withRoom(was.Last)[:cap(n.Last)]) ||
			!reflect.DeepEqual(n.Reply.L[:cap(n.Reply.L)], withRoom(was.Reply.L)[:cap(n.Reply.L)]) ||
			!reflect.DeepEqual(n.Atlas.L[:cap(n.Atlas.L)], withRoom(was.Atlas.L)[:cap(n.Atlas.L)]) {
			t.Errorf("kind %d: Pack changed what was handed in", kind)
		}
		c := append(bytes.Clone(b), "marks"...)
		back, _ := Read(c[:len(b)])
		if string(c) != string(b)+"marks" {
			t.Errorf("kind %d: Read changed what was handed in", kind)
		}
		clear(c)
		if !reflect.DeepEqual(back, was) {
			t.Errorf("kind %d: Read kept what was handed in", kind)
		}
	}
}

// withRoom answers l with room for two more, that is not zero where l is not.
func withRoom[T any](l []T) []T {
	if len(l) == 0 {
		return l
	}
	return slices.Concat(l, l[:1], l[:1])[: len(l) : len(l)+2]
}

// scribble writes x over all of l, spare room too.
func scribble[T any](l []T, x T) {
	for i := range l[:cap(l)] {
		l[:cap(l)][i] = x
	}
}

func TestR4WhatIsAnsweredIsNewMemory(t *testing.T) {
	for _, kind := range kinds() {
		b, _ := Pack(full(kind))
		c, _ := Pack(full(kind))
		scribble(b, 'x')
		n, _ := Read(c)
		m, _ := Read(c)
		scribble(c, 'x')
		mark := api.Record{Text: "scribbled", Val: "over"}
		scribble(n.L, mark)
		scribble(n.Reply.L, mark)
		scribble(n.Atlas.L, atlas.Shard{Node: 9})
		if len(n.Last) > 0 {
			scribble(n.Last[0].Reply.L, mark)
			scribble(n.L, api.Record{})
			if !reflect.DeepEqual(n.Last[1:], full(kind).Last[1:]) || n.Last[0].Reply.L[0] != mark {
				t.Errorf("kind %d: two lists of one answer share memory", kind)
			}
			scribble(n.Last, once.Last{Seq: 9})
		}
		if !reflect.DeepEqual(m, full(kind)) {
			t.Errorf("kind %d: two answers share memory", kind)
		}
	}
}

func TestR5TheSameEachTime(t *testing.T) {
	for _, kind := range kinds() {
		b, _ := Pack(full(kind))
		for range 10 {
			n := full(kind)
			n.L, n.Last = withRoom(n.L), slices.Clone(n.Last) // what spare room there is does not count
			if c, _ := Pack(n); !bytes.Equal(b, c) {
				t.Errorf("kind %d: %q, then %q", kind, b, c)
			}
		}
	}
}

func FuzzRead(f *testing.F) {
	for _, kind := range kinds() {
		b, _ := Pack(full(kind))
		f.Add(b)
	}
	f.Fuzz(func(t *testing.T, b []byte) { checkRead(t, b) })
}
