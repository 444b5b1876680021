package medium

import (
	"bytes"
	"math"
	"runtime"
	"slices"
	"strings"
	"testing"
)

// plain is a medium as the promise writes it: each byte, and whether it is synced.
type plain []cell

type cell struct {
	b      byte
	synced bool
}

func (p plain) append(s string) plain {
	p = slices.Clone(p)
	for _, b := range []byte(s) {
		p = append(p, cell{b: b})
	}
	return p
}

func (p plain) sync() plain {
	var q plain
	for _, c := range p {
		q = append(q, cell{c.b, true})
	}
	return q
}

func (p plain) crash(keep int) plain {
	var q plain
	for _, c := range p {
		if !c.synced {
			if keep <= 0 {
				continue
			}
			keep--
		}
		q = append(q, cell{c.b, true})
	}
	return q
}

func (p plain) bytes() string {
	var b []byte
	for _, c := range p {
		b = append(b, c.b)
	}
	return string(b)
}

func (p plain) loose() int {
	many := 0
	for _, c := range p {
		if !c.synced {
			many++
		}
	}
	return many
}

// call is one that changes a medium; which of its fields count hangs on do.
type call struct {
	do   string
	s    string
	keep int
}

func (c call) on(m *Medium) {
	switch c.do {
	case "Append":
		m.Append([]byte(c.s))
	case "Sync":
		m.Sync()
	case "Swap":
		m.Swap([]byte(c.s))
	case "Crash":
		m.Crash(c.keep)
	}
}

func (c call) onPlain(p plain) plain {
	switch c.do {
	case "Append":
		return p.append(c.s)
	case "Sync":
		return p.sync()
	case "Swap":
		return plain(nil).append(c.s).sync()
	case "Crash":
		return p.crash(c.keep)
	}
	return p
}

// Short names for calls that stand in long rows.

func app(s string) call    { return call{do: "Append", s: s} }
func sync() call           { return call{do: "Sync"} }
func swap(s string) call   { return call{do: "Swap", s: s} }
func crash(keep int) call  { return call{do: "Crash", keep: keep} }
func row(l ...call) []call { return l }
func run(many int) string  { return strings.Repeat("0123456789", many/10+1)[:many] }

// all answers a new medium behind those calls.
func all(l []call) *Medium {
	m := New()
	for _, c := range l {
		c.on(m)
	}
	return m
}

// check tells where m is not of these bytes, the last loose of them not synced. It asks twice, as asking changes nothing.
func check(t *testing.T, what any, m *Medium, want string, loose int) {
	t.Helper()
	for range 2 {
		if got := m.Bytes(); string(got) != want || m.Loose() != loose {
			t.Fatalf("%v: %q, of which %d are loose, want %q, %d", what, got, m.Loose(), want, loose)
		}
	}
}

// dice answers numbers that look like any, the same each time.
func dice() func(most int) int {
	state := uint64(10)
	return func(most int) int {
		state = state*6364136223846793005 + 1442695040888963407
		return int(state>>33) % most
	}
}

func TestP10_1TheExample(t *testing.T) {
	m := New()
	m.Append([]byte("abc"))
	m.Sync()
	m.Append([]byte("de"))
	m.Crash(1)
	check(t, "the example", m, "abcd", 0)
}

func TestP10_1(t *testing.T) {
	tests := []struct {
		l     []call
		want  string
		loose int
	}{
		{nil, "", 0},
		{row(app("")), "", 0},
		{row(sync()), "", 0},
		{row(crash(0)), "", 0},
		{row(crash(9)), "", 0},
		{row(swap("")), "", 0},
		{row(app("abc")), "abc", 3},
		{row(app("ab"), app(""), app("c")), "abc", 3},
		{row(app("\x00\xff"), app("\x80")), "\x00\xff\x80", 3},
		{row(app("abc"), sync()), "abc", 0},
		{row(app("abc"), sync(), sync()), "abc", 0},
		{row(app("abc"), sync(), app("de")), "abcde", 2},
		{row(app("abc"), sync(), app("de"), sync()), "abcde", 0},
		{row(app("abc"), sync(), app("")), "abc", 0},
		{row(app("a"), sync(), app("b"), app("c"), sync(), app("d")), "abcd", 1},

		{row(app("abc"), crash(0)), "", 0},
		{row(app("abc"), crash(1)), "a", 0},
		{row(app("abc"), crash(2)), "ab", 0},
		{row(app("abc"), crash(3)), "abc", 0},
		{row(app("abc"), crash(4)), "abc", 0},
		{row(app("abc"), crash(-1)), "", 0},
		{row(app("abc"), sync(), crash(0)), "abc", 0},
		{row(app("abc"), sync(), crash(1)), "abc", 0},
		{row(app("abc"), sync(), crash(-1)), "abc", 0},
		{row(app("abc"), sync(), app("defg"), crash(0)), "abc", 0},
		{row(app("abc"), sync(), app("defg"), crash(3)), "abcdef", 0},
		{row(app("abc"), sync(), app("de"), app("fg"), crash(3)), "abcdef", 0},
		{row(app("abc"), sync(), app("de"), app("fg"), crash(2)), "abcde", 0},

		{row(app("abc"), crash(2), crash(1)), "ab", 0}, // what is left is synced, so the second takes nothing
		{row(app("abc"), crash(2), crash(0)), "ab", 0},
		{row(app("abc"), crash(2), crash(-1)), "ab", 0},
		{row(app("abc"), crash(2), crash(3)), "ab", 0}, // what is gone stays gone
		{row(app("abc"), crash(1), app("xyz")), "axyz", 3},
		{row(app("abc"), crash(1), app("xyz"), crash(1)), "ax", 0},
		{row(app("abc"), crash(9), app("xyz"), crash(0)), "abc", 0},
		{row(app("abc"), crash(0), app("x"), sync()), "x", 0},
		{row(app("abc"), crash(1), sync(), app("d"), crash(2)), "ad", 0},

		{row(swap("abc")), "abc", 0},
		{row(swap("abc"), crash(0)), "abc", 0},
		{row(swap("abc"), crash(-1)), "abc", 0},
		{row(app("xy"), swap("abc")), "abc", 0},
		{row(app("xy"), sync(), swap("abc"), crash(0)), "abc", 0},
		{row(app("xy"), sync(), app("z"), swap("abc"), crash(0)), "abc", 0},
		{row(app("xy"), sync(), app("z"), swap("abc"), crash(9)), "abc", 0},
		{row(app("xy"), sync(), app("z"), swap("")), "", 0},
		{row(app("xy"), sync(), app("z"), swap(""), app("a")), "a", 1},
		{row(swap("abc"), app("de")), "abcde", 2},
		{row(swap("abc"), app("de"), crash(1)), "abcd", 0},
		{row(swap("abc"), swap("d")), "d", 0},
		{row(swap("abc"), app("d"), sync(), swap("ab"), app("x"), crash(0)), "ab", 0},
	}
	for _, x := range tests {
		check(t, x.l, all(x.l), x.want, x.loose)
	}
}

func TestP10_1CrashKeepsHowManyItIsAsked(t *testing.T) {
	for _, synced := range []int{0, 1, 5, 100} {
		for _, loose := range []int{0, 1, 2, 7, 64, 300} {
			for _, keep := range []int{math.MinInt, math.MinInt32, -300, -2, -1, 0, 1, 2, 6, 7, 8, 63, 64, 65, 299, 300, 301, math.MaxInt32, math.MaxInt - synced, math.MaxInt} {
				m, s := New(), run(synced+loose)
				m.Append([]byte(s[:synced]))
				m.Sync()
				m.Append([]byte(s[synced:]))
				stay := keep
				if keep < 0 {
					stay = 0
				} else if keep > loose {
					stay = loose
				}
				m.Crash(keep)
				check(t, call{do: "Crash", keep: keep}, m, s[:synced+stay], 0)
				m.Append([]byte("more"))
				check(t, "Append behind it", m, s[:synced+stay]+"more", 4)
				m.Crash(0)
				check(t, "and a second crash", m, s[:synced+stay], 0)
			}
		}
	}
}

func TestP10_1AllShortRowsOfCalls(t *testing.T) {
	calls := row(app(""), app("a"), app("bcd"), sync(), swap(""), swap("xy"), crash(-1), crash(0), crash(1), crash(2), crash(9))
	var step func(l []call, p plain)
	step = func(l []call, p plain) {
		check(t, l, all(l), p.bytes(), p.loose())
		if len(l) == 5 {
			return
		}
		for _, c := range calls {
			step(append(l[:len(l):len(l)], c), c.onPlain(p))
		}
	}
	step(nil, nil)
}

// anyCall answers one of any calls, with s to lay.
func anyCall(roll func(most int) int) call {
	s := make([]byte, roll(12))
	for i := range s {
		s[i] = byte(roll(256))
	}
	switch roll(8) {
	case 0:
		return sync()
	case 1:
		return crash(roll(30) - 3)
	case 2:
		if roll(6) == 0 {
			return swap(string(s))
		}
	}
	return app(string(s))
}

func TestP10_1AsPlainBytes(t *testing.T) {
	roll := dice()
	for range 300 {
		m, p := New(), plain(nil)
		for range 60 {
			c := anyCall(roll)
			c.on(m)
			p = c.onPlain(p)
			check(t, c, m, p.bytes(), p.loose())
		}
	}
}

func TestP10_1OfMuch(t *testing.T) {
	m, want := New(), strings.Builder{}
	const many = 200000
	for i := range many { // synced each time, as a journal is
		s := run(1 + i%50)
		m.Append([]byte(s))
		m.Sync()
		want.WriteString(s)
		if m.Loose() != 0 {
			t.Fatalf("Loose behind Sync: %d", m.Loose())
		}
	}
	for range many { // a torn end each time
		m.Append([]byte("torn"))
		m.Crash(0)
	}
	check(t, "much", m, want.String(), 0)

	whole := want.String()
	m.Swap(nil)
	for i := range many { // none of it synced
		m.Append([]byte(whole[i*5 : i*5+5]))
	}
	check(t, "much that is loose", m, whole[:many*5], many*5)
	m.Append([]byte(whole[many*5:]))
	m.Crash(len(whole) - 1)
	check(t, "much, but one", m, whole[:len(whole)-1], 0)
	m.Swap([]byte(whole))
	check(t, "much swapped", m, whole, 0)
}

func TestP10_1TwoMediaHaveNothingInCommon(t *testing.T) {
	a, b := New(), New()
	a.Append([]byte("abc"))
	check(t, "the other", b, "", 0)
	b.Append([]byte("x"))
	b.Sync()
	a.Crash(1)
	check(t, "one", a, "a", 0)
	check(t, "the other", b, "x", 0)
}

func TestP10_1Copy(t *testing.T) {
	tests := []struct {
		l     []call
		want  string
		loose int
	}{
		{nil, "", 0},
		{row(app("abc")), "abc", 3},
		{row(app("abc"), sync()), "abc", 0},
		{row(app("abc"), sync(), app("de")), "abcde", 2},
		{row(swap("abc"), app("d")), "abcd", 1},
		{row(app("abc"), crash(1)), "a", 0},
	}
	changes := row(app("zz"), sync(), swap("zz"), swap(""), crash(0), crash(1), crash(9))
	for _, x := range tests {
		for _, one := range changes {
			for _, other := range changes {
				m := all(x.l)
				c := m.Copy()
				check(t, "a copy", c, x.want, x.loose)
				p := plain(nil)
				for _, done := range x.l {
					p = done.onPlain(p)
				}
				one.on(m)
				check(t, "a copy, where what was copied is changed", c, x.want, x.loose)
				other.on(c)
				check(t, "what was copied", m, one.onPlain(p).bytes(), one.onPlain(p).loose())
				check(t, "a copy that is changed", c, other.onPlain(p).bytes(), other.onPlain(p).loose())
			}
		}
	}
}

func TestP10_1CopyAppendsAlone(t *testing.T) {
	m, want := New(), ""
	for loose := range 200 { // whatever spare room there is
		c := m.Copy()
		m.Append([]byte("m"))
		c.Append([]byte("c"))
		check(t, "what was copied", m, want+"m", loose+1)
		check(t, "a copy", c, want+"c", loose+1)
		c.Sync()
		d := c.Copy()
		d.Append([]byte("d"))
		c.Append([]byte("e"))
		m.Append([]byte("n"))
		check(t, "what was copied", m, want+"mn", loose+2)
		check(t, "a copy that was synced", c, want+"ce", 1)
		check(t, "a copy of a copy", d, want+"cd", 1)
		m.Crash(loose + 1)
		check(t, "what was copied, behind a crash", m, want+"m", 0)
		want += "m"
		m.Swap(nil)
		m.Append([]byte(want))
	}
}

func TestP10_1CopySyncsAlone(t *testing.T) {
	m, want := New(), ""
	for range 200 { // whatever spare room there is
		c := m.Copy()
		m.Append([]byte("m"))
		m.Sync()
		c.Append([]byte("c"))
		c.Sync()
		check(t, "what was copied", m, want+"m", 0)
		check(t, "a copy", c, want+"c", 0)
		want += "m"
	}
}

func TestP10_1OfAnyAppends(t *testing.T) {
	for _, sizes := range [][]int{{1, 2, 3}, {0, 5, 0}, {7}, {100, 1, 100}, {1 << 20, 1}} {
		m, want := New(), ""
		for _, many := range sizes {
			m.Append([]byte(run(many)))
			want += run(many)
			check(t, many, m, want, len(want))
		}
		for keep := range min(len(want), 300) {
			c := m.Copy()
			c.Crash(keep)
			check(t, keep, c, want[:keep], 0)
		}
		check(t, sizes, m, want, len(want))
	}
}

func TestP10_1WhatIsGoneIsLetGo(t *testing.T) {
	much := make([]byte, 1<<24)
	for name, do := range map[string]func(m *Medium){
		"Crash": func(m *Medium) { m.Append(much); m.Crash(1) },
		"Swap":  func(m *Medium) { m.Append(much); m.Sync(); m.Swap([]byte("a")) },
	} {
		var l []*Medium
		var before, behind runtime.MemStats
		runtime.GC()
		runtime.ReadMemStats(&before)
		for range 8 {
			l = append(l, New())
			do(l[len(l)-1])
		}
		runtime.GC()
		runtime.ReadMemStats(&behind)
		if kept := int64(behind.HeapAlloc) - int64(before.HeapAlloc); kept > 1<<23 {
			t.Errorf("%s: %d bytes are kept of media of one byte", name, kept)
		}
		for _, m := range l {
			if len(m.Bytes()) != 1 {
				t.Errorf("%s: %d bytes, want 1", name, len(m.Bytes()))
			}
		}
	}
}

// scribble writes over a list, its spare room too.
func scribble(b []byte) {
	for i := range b[:cap(b)] {
		b[:cap(b)][i] = 0xee
	}
}

func TestR4WhatIsHandedInIsNotChangedNorKept(t *testing.T) {
	for name, do := range map[string]func(m *Medium, b []byte){
		"Append":                 func(m *Medium, b []byte) { m.Append(b) },
		"Append, then Sync":      func(m *Medium, b []byte) { m.Append(b); m.Sync() },
		"Append, then Crash":     func(m *Medium, b []byte) { m.Append(b); m.Crash(len(b)) },
		"Swap":                   func(m *Medium, b []byte) { m.Swap(b) },
		"Append behind Swap":     func(m *Medium, b []byte) { m.Append([]byte("ab")); m.Swap(nil); m.Append(b) },
		"Append, then its copy":  func(m *Medium, b []byte) { m.Append(b); *m = *m.Copy() },
		"Swap, then its copy":    func(m *Medium, b []byte) { m.Swap(b); *m = *m.Copy() },
		"Append of what it told": func(m *Medium, b []byte) { m.Append(b); l := m.Bytes(); m.Swap(nil); m.Append(l); scribble(l) },
	} {
		for _, s := range []string{"", "a", "some bytes", run(300)} {
			room := append([]byte(s), "spare room"...)
			m := New()
			do(m, room[:len(s)])
			loose := m.Loose()
			check(t, name, m, s, loose)
			m.Append([]byte("x")) // were b kept, this would go into its spare room
			if string(room) != s+"spare room" {
				t.Errorf("%s of %q changed it to %q", name, s, room)
			}
			scribble(room)
			check(t, name+", where that is changed", m, s+"x", loose+1)
			m.Sync()
			m.Crash(0)
			check(t, name+", and synced", m, s+"x", 0)
		}
	}
}

func TestR4BytesAreNewMemory(t *testing.T) {
	for _, l := range [][]call{
		row(app("abc")), row(app("abc"), sync()), row(swap("abc")), row(app("abcd"), crash(3)),
		row(app("ab"), sync(), app("c")), row(swap("a"), app("bc")), row(swap("abc"), app("d"), crash(0)),
	} {
		m := all(l)
		loose := m.Loose()
		one, other := m.Bytes(), m.Bytes()
		scribble(one)
		check(t, l, m, "abc", loose)
		if string(other) != "abc" {
			t.Errorf("%v: two answers of Bytes have memory in common", l)
		}
		m.Append([]byte("de"))
		if string(other) != "abc" || bytes.Contains(other[:cap(other)], []byte("de")) {
			t.Errorf("%v: Append changed what Bytes answered to %q", l, other[:cap(other)])
		}
		scribble(other)
		check(t, l, m, "abcde", loose+2)
		m.Sync()
		l := m.Bytes()
		m.Swap([]byte("zzzzzzzz"))
		if string(l) != "abcde" {
			t.Errorf("Swap changed what Bytes answered to %q", l)
		}
	}
}

func TestP10_1SwapOfItsOwnBytes(t *testing.T) {
	m := all(row(app("abc"), sync(), app("defg")))
	m.Swap(m.Bytes()[:5]) // as a journal is cut
	check(t, "cut", m, "abcde", 0)
	m.Append(m.Bytes())
	check(t, "doubled", m, "abcdeabcde", 5)
}

func TestR7NilMedium(t *testing.T) {
	var m *Medium
	for range 2 {
		for _, keep := range []int{math.MinInt, -1, 0, 1, math.MaxInt} {
			m.Crash(keep)
		}
		for _, b := range [][]byte{nil, {}, []byte("abc")} {
			m.Append(b)
			m.Swap(b)
		}
		m.Sync()
		if b := m.Bytes(); len(b) != 0 || m.Loose() != 0 || m.Copy() != nil {
			t.Errorf("a nil medium: %q, %d, %v", b, m.Loose(), m.Copy())
		}
	}
}

func TestR7ListsThatAreNil(t *testing.T) {
	for _, m := range []*Medium{New(), {}} {
		check(t, "none", m, "", 0)
		m.Append(nil)
		m.Swap(nil)
		m.Sync()
		m.Crash(1)
		check(t, "nothing laid", m, "", 0)
		m.Append([]byte("ab"))
		m.Append(nil)
		check(t, "Append(nil)", m, "ab", 2)
		check(t, "a copy", m.Copy(), "ab", 2)
		m.Swap(nil)
		check(t, "Swap(nil)", m, "", 0)
		m.Append([]byte("c"))
		check(t, "Append behind it", m, "c", 1)
	}
}
