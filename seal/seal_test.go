package seal

import (
	"bytes"
	"hash/adler32"
	"slices"
	"strconv"
	"testing"

	"gazetteer/api"
)

// dice answers numbers that look like any, the same each time.
func dice() func(most int) int {
	state := uint64(7)
	return func(most int) int {
		state = state*6364136223846793005 + 1442695040888963407
		return int(state>>33) % most
	}
}

// run answers many bytes that look like any.
func run(many int) []byte {
	roll := dice()
	b := make([]byte, many)
	for i := range b {
		b[i] = byte(roll(256))
	}
	return b
}

// all answers many bytes, each of them x.
func all(x byte, many int) []byte { return bytes.Repeat([]byte{x}, many) }

// plainSum takes the rest behind each step, as the promise is written.
func plainSum(b []byte) uint32 {
	a, c := 1, 0
	for _, x := range b {
		a = (a + int(x)) % 65521
		c = (c + a) % 65521
	}
	return uint32(c*65536 + a)
}

// plainFrame lays a frame byte by byte.
func plainFrame(kind byte, b []byte) []byte {
	said := []byte{byte(len(b) / 256), byte(len(b) % 256), kind}
	sum := plainSum(slices.Concat(said, b))
	sums := []byte{byte(sum / 16777216), byte(sum / 65536 % 256), byte(sum / 256 % 256), byte(sum % 256)}
	return slices.Concat(said, sums, b)
}

// opened is what Open answers, in one.
type opened struct {
	kind byte
	data string
	size int
	e    api.Errno
}

func open(b []byte) opened {
	kind, data, size, e := Open(b)
	return opened{kind, string(data), size, e}
}

// plainOpen makes the frame anew of what it says to be, and holds it against what is there.
func plainOpen(b []byte) opened {
	if len(b) < 7 {
		return opened{e: api.ErrShort}
	}
	many := int(b[0])*256 + int(b[1])
	switch {
	case many > 32768:
		return opened{e: api.ErrLong}
	case len(b)-7 < many:
		return opened{e: api.ErrShort}
	case !bytes.Equal(plainFrame(b[2], b[7:7+many]), b[:7+many]):
		return opened{e: api.ErrSum}
	}
	return opened{b[2], string(b[7 : 7+many]), 7 + many, api.OK}
}

// checkOpen holds Open, and what All says of the first frame, against the promise.
func checkOpen(t *testing.T, b []byte) opened {
	t.Helper()
	got, want := open(b), plainOpen(b)
	if got != want {
		t.Fatalf("Open(% x): %d, % x, %d, %v, want %d, % x, %d, %v", cut(b), got.kind, cut([]byte(got.data)), got.size, got.e, want.kind, cut([]byte(want.data)), want.size, want.e)
	}
	return got
}

// cut keeps what is told short.
func cut(b []byte) []byte { return b[:min(len(b), 40)] }

// checkAll holds All against one frame taken behind the other.
func checkAll(t *testing.T, b []byte) (many, size int) {
	t.Helper()
	var want []string
	used := 0
	for {
		f := plainOpen(b[used:])
		if f.e != api.OK {
			break
		}
		want = append(want, string([]byte{f.kind})+f.data)
		used += f.size
	}
	l, size := All(b)
	if size != used || !slices.EqualFunc(l, want, func(x []byte, s string) bool { return string(x) == s }) {
		t.Fatalf("All(% x): %d frames of %d bytes, want %d of %d", cut(b), len(l), size, len(want), used)
	}
	return len(l), size
}

func TestP8_1Sum(t *testing.T) {
	tests := []struct {
		s    string
		want uint32
	}{
		{"", 0x00000001},
		{"\x00", 0x00010001},
		{"\x00\x00\x00", 0x00030001},
		{"\x01", 0x00020002},
		{"\xff", 0x01000100},
		{"\x00\x00\x01", 0x00040002},
		{"\x01\x00\x00", 0x00060002},
		{"a", 0x00620062},
		{"ab", 0x012600c4},
		{"ba", 0x012700c4},
		{"abc", 0x024d0127},
		{"message digest", 0x29750586},
		{"Wikipedia", 0x11e60398},
		{"\u00e9", 0x0231016d},
	}
	for _, x := range tests {
		if got := Sum([]byte(x.s)); got != x.want {
			t.Errorf("Sum(%q): %08x, want %08x", x.s, got, x.want)
		}
	}
	if got := Sum(nil); got != 1 {
		t.Errorf("Sum(nil): %08x", got)
	}
}

func TestP8_1SumWhereTheNumbersComeRound(t *testing.T) {
	for rest, a := range map[byte]uint32{238: 65519, 239: 65520, 240: 0, 241: 1, 242: 2, 255: 15} {
		b := append(all(255, 256), rest) // 1 and 256 times 255 are 65281
		if got := Sum(b); got&0xffff != a || got != plainSum(b) {
			t.Errorf("Sum of bytes and %d: %08x, want %d in its lower half", rest, got, a)
		}
	}
	for many := 65515; many < 65540; many++ { // of noughts c is how many they are
		if got := Sum(all(0, many)); got != uint32(many%65521)<<16|1 {
			t.Errorf("Sum of %d noughts: %08x", many, got)
		}
	}
}

func TestP8_1SumOfAllShortBytes(t *testing.T) {
	edges := []byte{0, 1, 2, 0x7f, 0x80, 0xfe, 0xff}
	for a := range 256 {
		for b := range 256 {
			for l := range 3 {
				x := []byte{byte(a), byte(b)}[:l]
				if got := Sum(x); got != plainSum(x) {
					t.Fatalf("Sum(% x): %08x, want %08x", x, got, plainSum(x))
				}
			}
			for _, c := range edges {
				x := []byte{byte(a), c, byte(b), c}
				if got := Sum(x); got != plainSum(x) {
					t.Fatalf("Sum(% x): %08x, want %08x", x, got, plainSum(x))
				}
			}
		}
	}
}

func TestP8_1SumOfAllLengths(t *testing.T) {
	for _, b := range [][]byte{run(6000), all(0xff, 6000), all(0, 6000)} {
		a, c := uint32(1), uint32(0)
		for many := range len(b) {
			if got := Sum(b[:many]); got != c<<16|a {
				t.Fatalf("Sum of %d bytes: %08x, want %08x", many, got, c<<16|a)
			}
			a = (a + uint32(b[many])) % 65521
			c = (c + a) % 65521
		}
	}
}

func TestP8_1SumOfMuch(t *testing.T) {
	for _, b := range [][]byte{all(0xff, 1<<25+9), run(1<<22 + 5), all(0, 1<<22)} {
		for _, many := range []int{1<<15 - 1, 1 << 15, 1<<15 + 3, 1<<16 - 1, 1 << 16, 1<<16 + 1, 1<<17 - 1, 1 << 17, 1<<17 + 1, 1<<20 + 7, len(b)} {
			if got, want := Sum(b[:many]), adler32.Checksum(b[:many]); got != want {
				t.Errorf("Sum of %d bytes: %08x, want %08x", many, got, want)
			}
		}
	}
}

func TestP8_2TheExample(t *testing.T) {
	for _, none := range [][]byte{nil, {}} {
		b, e := Frame(1, none)
		if !bytes.Equal(b, []byte{0, 0, 1, 0, 4, 0, 2}) || e != api.OK {
			t.Errorf("Frame(1, none): % x, %v", b, e)
		}
	}
}

func TestP8_2Frame(t *testing.T) {
	tests := []struct {
		kind byte
		s    string
		want string
	}{
		{0, "", "\x00\x00\x00\x00\x03\x00\x01"},
		{7, "", "\x00\x00\x07\x00\x0a\x00\x08"},
		{255, "", "\x00\x00\xff\x01\x02\x01\x00"},
		{1, "a", "\x00\x01\x01\x00\x6a\x00\x64a"},
		{'d', "abc", "\x00\x03d\x03\xef\x01\x8eabc"},
		{3, "\x00\x00", "\x00\x02\x03\x00\x16\x00\x06\x00\x00"},
	}
	for _, x := range tests {
		if b, e := Frame(x.kind, []byte(x.s)); string(b) != x.want || e != api.OK {
			t.Errorf("Frame(%d, %q): % x, %v, want % x", x.kind, x.s, b, e, x.want)
		}
		if got := open([]byte(x.want)); got != (opened{x.kind, x.s, len(x.want), api.OK}) {
			t.Errorf("Open(% x): %v", x.want, got)
		}
	}
}

func TestP8_2FrameThereAndBack(t *testing.T) {
	b := run(api.MaxFrame)
	for _, many := range []int{0, 1, 2, 3, 6, 7, 8, 127, 128, 254, 255, 256, 257, 511, 512, 0x1234, 0x4000, 0x7fff, 0x8000} {
		for _, kind := range []byte{0, 1, 7, 127, 128, 254, 255} {
			f, e := Frame(kind, b[:many])
			if !bytes.Equal(f, plainFrame(kind, b[:many])) || e != api.OK {
				t.Fatalf("Frame(%d, %d bytes): % x, %v", kind, many, cut(f), e)
			}
			want := opened{kind, string(b[:many]), many + 7, api.OK}
			for _, more := range [][]byte{nil, {0}, {0xff}, f, run(9)} { // what is behind a frame says nothing of it
				if got := open(slices.Concat(f, more)); got != want {
					t.Fatalf("Open of kind %d, %d bytes, %d behind: %d, %d bytes, %d, %v", kind, many, len(more), got.kind, len(got.data), got.size, got.e)
				}
			}
		}
	}
}

func TestP8_2FrameOfEachKind(t *testing.T) {
	for kind := range 256 {
		for _, s := range []string{"", "x", "\x00\xff"} {
			f, e := Frame(byte(kind), []byte(s))
			if !bytes.Equal(f, plainFrame(byte(kind), []byte(s))) || e != api.OK {
				t.Fatalf("Frame(%d, %q): % x, %v", kind, s, f, e)
			}
			if got := checkOpen(t, f); got.kind != byte(kind) || got.data != s {
				t.Fatalf("Open(% x): %v", f, got)
			}
		}
	}
}

func TestP8_2FrameTooLong(t *testing.T) {
	for _, many := range []int{api.MaxFrame + 1, api.MaxFrame + 2, 65534, 65535, 65536, 65537, 65536 + 300, 1 << 20, 1 << 24} {
		if f, e := Frame(1, make([]byte, many)); len(f) != 0 || e != api.ErrLong {
			t.Errorf("Frame of %d bytes: %d bytes, %v, want ErrLong and none", many, len(f), e)
		}
	}
	if f, e := Frame(1, make([]byte, api.MaxFrame)); len(f) != api.MaxFrame+7 || e != api.OK {
		t.Errorf("Frame of MaxFrame bytes: %d bytes, %v", len(f), e)
	}
}

func TestP8_2OpenCutOff(t *testing.T) {
	for _, many := range []int{0, 1, 2, 7, 255, 256, 300, api.MaxFrame} {
		f := plainFrame(9, run(many))
		for to := range len(f) {
			if to > 600 && to < len(f)-600 {
				continue
			}
			if got := open(f[:to]); got != (opened{e: api.ErrShort}) {
				t.Fatalf("Open of %d bytes of %d: %d, %d bytes, %d, %v", to, len(f), got.kind, len(got.data), got.size, got.e)
			}
		}
		checkOpen(t, f)
	}
	if got := open(nil); got != (opened{e: api.ErrShort}) {
		t.Errorf("Open(nil): %v", got)
	}
}

func TestP8_2OpenWhatComesFirst(t *testing.T) {
	// long is a frame that says more than MaxFrame, with a sum that is right or not
	long := func(many int, right bool) []byte {
		f := plainFrame(1, make([]byte, many))
		if !right {
			f[6]++
		}
		return f
	}
	tests := []struct {
		name string
		b    []byte
		want api.Errno
	}{
		{"no bytes", []byte{}, api.ErrShort},
		{"six bytes, and it says too much", []byte{0xff, 0xff, 1, 0, 0, 0}, api.ErrShort},
		{"six bytes, and none said", []byte{0, 0, 1, 0, 4, 0}, api.ErrShort},
		{"a head that says MaxFrame", []byte{0x80, 0, 1, 0, 0, 0, 0}, api.ErrShort},
		{"a head that says one more", []byte{0x80, 1, 1, 0, 0, 0, 0}, api.ErrLong},
		{"a head that says the most that it can", []byte{0xff, 0xff, 1, 0, 0, 0, 0}, api.ErrLong},
		{"a head that says one", []byte{0, 1, 1, 0, 0, 0, 0}, api.ErrShort},
		{"a head with a wrong sum", []byte{0, 0, 1, 0, 4, 0, 3}, api.ErrSum},
		{"a head with a sum of nought", []byte{0, 0, 1, 0, 0, 0, 0}, api.ErrSum},
		{"one more than MaxFrame, all there", long(api.MaxFrame+1, true), api.ErrLong},
		{"one more than MaxFrame, a wrong sum", long(api.MaxFrame+1, false), api.ErrLong},
		{"one more than MaxFrame, not all there", long(api.MaxFrame+1, true)[:api.MaxFrame], api.ErrLong},
		{"65535, all there", long(65535, true), api.ErrLong},
		{"MaxFrame, all there", long(api.MaxFrame, true), api.OK},
		{"MaxFrame, a wrong sum", long(api.MaxFrame, false), api.ErrSum},
		{"MaxFrame, a wrong sum, not all there", long(api.MaxFrame, false)[:api.MaxFrame+6], api.ErrShort},
		{"the bytes of 256, said the lowest first", slices.Concat([]byte{0, 1}, long(256, true)[2:]), api.ErrSum},
	}
	for _, x := range tests {
		got := open(x.b)
		if got.e != x.want || x.want != api.OK && got != (opened{e: x.want}) {
			t.Errorf("Open of %s: %d, %d bytes, %d, %v, want %v", x.name, got.kind, len(got.data), got.size, got.e, x.want)
		}
		if l, size := All(x.b); x.want != api.OK && (len(l) != 0 || size != 0) {
			t.Errorf("All of %s: %d frames, %d bytes", x.name, len(l), size)
		}
	}
}

func TestP8_2OpenOfWhatWasChanged(t *testing.T) {
	for _, s := range []string{"", "a", "abcdefg", string(run(300))} {
		f := plainFrame(7, []byte(s))
		for place := range f {
			for flip := 1; flip < 256; flip++ {
				b := slices.Clone(f)
				b[place] ^= byte(flip)
				got := checkOpen(t, b)
				if got.e == api.OK || place >= 2 && got.e != api.ErrSum { // where the length is as it was, it is the sum that tells
					t.Fatalf("Open of %q, byte %d changed by %02x: %v", cut([]byte(s)), place, flip, got.e)
				}
			}
		}
	}
}

func TestP8_2OpenOfAllShortBytes(t *testing.T) {
	some := []byte{0, 1, 2, 4, 0x80, 0xff}
	b := make([]byte, 7)
	fine := 0
	var fill func(place int)
	fill = func(place int) {
		if place < len(b) {
			for _, x := range some {
				b[place] = x
				fill(place + 1)
			}
			return
		}
		for _, s := range [][]byte{b, append(b[:7:7], 0, 1)} {
			if checkOpen(t, s).e == api.OK {
				fine++
			}
		}
	}
	fill(0)
	if fine == 0 {
		t.Error("none of them opens")
	}
}

func TestP8_2OpenOfAnyBytes(t *testing.T) {
	roll := dice()
	for range 200000 {
		b := make([]byte, roll(24))
		for i := range b {
			b[i] = byte(roll(256) >> roll(9))
		}
		checkOpen(t, b)
		checkAll(t, b)
	}
}

func TestP8_2All(t *testing.T) {
	one, two, none := plainFrame(1, []byte("one")), plainFrame(0xff, []byte("\x00two")), plainFrame(7, nil)
	wrong := slices.Clone(two)
	wrong[len(wrong)-1]++
	long := plainFrame(2, make([]byte, api.MaxFrame+1))
	tests := []struct {
		name string
		b    []byte
		want []string
		size int
	}{
		{"no bytes", nil, nil, 0},
		{"one frame", one, []string{"\x01one"}, 10},
		{"an empty frame", none, []string{"\x07"}, 7},
		{"three", slices.Concat(one, two, none), []string{"\x01one", "\xff\x00two", "\x07"}, 28},
		{"the same twice", slices.Concat(one, one), []string{"\x01one", "\x01one"}, 20},
		{"empty ones", slices.Concat(none, none, none), []string{"\x07", "\x07", "\x07"}, 21},
		{"a torn head behind one", slices.Concat(one, two[:6]), []string{"\x01one"}, 10},
		{"a torn frame behind two", slices.Concat(one, none, two[:len(two)-1]), []string{"\x01one", "\x07"}, 17},
		{"one byte behind one", slices.Concat(one, []byte{0}), []string{"\x01one"}, 10},
		{"noughts behind one", slices.Concat(one, make([]byte, 50)), []string{"\x01one"}, 10},
		{"a wrong one between", slices.Concat(one, wrong, none), []string{"\x01one"}, 10},
		{"a wrong one first", slices.Concat(wrong, one), nil, 0},
		{"one that is too long between", slices.Concat(none, long, one), []string{"\x07"}, 7},
		{"a byte ahead", slices.Concat([]byte{0}, one, two), nil, 0},
		{"a frame in a frame", slices.Concat(plainFrame(3, one), none), []string{"\x03" + string(one), "\x07"}, 24},
	}
	for _, x := range tests {
		l, size := All(x.b)
		if size != x.size || !slices.EqualFunc(l, x.want, func(b []byte, s string) bool { return string(b) == s }) {
			t.Errorf("All of %s: %q, %d, want %q, %d", x.name, l, size, x.want, x.size)
		}
	}
}

func TestP8_2AllOfGreatFrames(t *testing.T) {
	b := run(api.MaxFrame)
	f := plainFrame(5, b)
	l, size := All(slices.Concat(f, f, f[:len(f)-1]))
	if len(l) != 2 || size != 2*len(f) || !bytes.Equal(l[0], append([]byte{5}, b...)) || !bytes.Equal(l[1], l[0]) {
		t.Errorf("All of two and a torn one: %d frames, %d bytes", len(l), size)
	}
}

func TestP8_2AllCutOffAnywhere(t *testing.T) {
	var b []byte
	ends := map[int]int{0: 0} // where a frame ends: how many there are up to it
	for i, many := range []int{3, 0, 0, 1, 40, 256, 7, 300, 0, 2} {
		b = append(b, plainFrame(byte(i), run(many))...)
		ends[len(b)] = i + 1
	}
	whole, whereTo := 0, 0
	for to := range len(b) + 1 {
		if n, there := ends[to]; there {
			whole, whereTo = n, to
		}
		if many, size := checkAll(t, b[:to]); many != whole || size != whereTo {
			t.Fatalf("All of the first %d bytes: %d frames, %d bytes, want %d, %d", to, many, size, whole, whereTo)
		}
	}
}

func TestP8_2AllOfWhatWasChanged(t *testing.T) {
	var b []byte
	var starts []int
	for i, many := range []int{5, 0, 30, 1, 260, 0, 12} {
		starts = append(starts, len(b))
		b = append(b, plainFrame(byte(i), run(many))...)
	}
	for place := range b {
		for _, flip := range []byte{1, 2, 4, 8, 16, 32, 64, 128, 255} {
			x := slices.Clone(b)
			x[place] ^= flip
			frame, there := slices.BinarySearch(starts, place)
			if !there {
				frame--
			}
			if many, size := checkAll(t, x); many != frame || size != starts[frame] {
				t.Fatalf("All, byte %d changed by %02x: %d frames, %d bytes, want %d, %d", place, flip, many, size, frame, starts[frame])
			}
		}
	}
}

func TestP8_2AllOfMuch(t *testing.T) {
	var b []byte
	const many = 200000
	for i := range many {
		b = append(b, plainFrame(byte(i), []byte(strconv.Itoa(i)))...)
	}
	l, size := All(append(b, 0, 0, 0))
	if len(l) != many || size != len(b) {
		t.Fatalf("All: %d frames, %d bytes, want %d, %d", len(l), size, many, len(b))
	}
	for i, x := range l {
		if string(x) != string([]byte{byte(i)})+strconv.Itoa(i) {
			t.Fatalf("frame %d of All: %q", i, x)
		}
	}
}

// guarded answers b with spare room behind it that is marked, and a function that tells whether both are as they were.
func guarded(b []byte) ([]byte, func() bool) {
	room := append(slices.Clone(b), all(0xee, 9)...)
	was := slices.Clone(room)
	return room[:len(b)], func() bool { return bytes.Equal(room, was) }
}

// scribble writes over a list, its spare room too.
func scribble(b []byte) {
	for i := range b[:cap(b)] {
		b[:cap(b)][i] = 0x5a
	}
}

func TestR4ListsAreNotSharedNorChanged(t *testing.T) {
	for _, s := range []string{"", "a", "some bytes", string(run(300))} {
		data, same := guarded([]byte(s))
		f, _ := Frame(3, data)
		want := plainFrame(3, []byte(s))
		Sum(data)
		if !same() {
			t.Errorf("Sum or Frame of %q changed it", s)
		}
		scribble(f)
		if again, _ := Frame(3, data); !same() || !bytes.Equal(again, want) {
			t.Errorf("what Frame of %q answered is shared", s)
		}
		f, same = guarded(want)
		_, got, _, _ := Open(f)
		scribble(got)
		if !same() || open(f).data != s {
			t.Errorf("what Open of %q answered is shared", s)
		}
	}
}

func TestR4AllAnswersNewLists(t *testing.T) {
	b, same := guarded(slices.Concat(plainFrame(1, []byte("a")), plainFrame(2, nil), plainFrame(3, run(60)), plainFrame(4, []byte("bcd"))))
	want, _ := All(b)
	for i := range want {
		got, _ := All(b)
		scribble(got[i])
		for k := range got {
			if k != i && !bytes.Equal(got[k], want[k]) {
				t.Errorf("list %d of All has memory in common with list %d", i, k)
			}
		}
	}
	got, _ := All(b)
	clear(got[:cap(got)])
	if again, _ := All(b); !same() || !slices.EqualFunc(again, want, bytes.Equal) {
		t.Error("what All answered is shared")
	}
}

func TestR4NoListIsKept(t *testing.T) {
	b := plainFrame(3, []byte("some bytes"))
	kind, data, _, _ := Open(b)
	l, _ := All(b)
	f, _ := Frame(9, b)
	want := plainFrame(9, b)
	scribble(b)
	if kind != 3 || string(data) != "some bytes" || string(l[0]) != "\x03some bytes" || !bytes.Equal(f, want) {
		t.Errorf("where what was handed in changes: %q, %q, % x", data, l, f)
	}
}
