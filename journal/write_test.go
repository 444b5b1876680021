package journal

import (
	"bytes"
	"reflect"
	"strings"
	"testing"

	"gazetteer/api"
	"gazetteer/medium"
)

func TestPieces(t *testing.T) {
	const most = 16384 // half a frame
	for _, size := range []int{0, 1, 100, most - 1, most, most + 1, 2 * most, 2*most + 1, 10*most + 7} {
		b := make([]byte, size)
		for i := range b {
			b[i] = byte(i % 251)
		}
		l := Pieces(9, 5, b)
		var all []byte
		for i, d := range l {
			do := 5
			if i == len(l)-1 {
				do = 9
			}
			if want := (Deed{Do: do, L: []api.Record{{Val: d.L[0].Val}}}); !reflect.DeepEqual(d, want) || len(d.L[0].Val) > most {
				t.Errorf("%d bytes, piece %d: %+v", size, i, d)
			}
			all = append(all, d.L[0].Val...)
		}
		if many := max(1, (size+most-1)/most); len(l) != many || !bytes.Equal(all, b) {
			t.Errorf("%d bytes are %d pieces of %d bytes", size, len(l), len(all))
		}
		m := medium.New()
		if e := Write(m, l...); e != api.OK {
			t.Errorf("%d bytes: %v", size, e)
		}
		if back, lost := Recover(m); !reflect.DeepEqual(back, l) || lost != 0 {
			t.Errorf("%d bytes: they are not there again", size)
		}
	}
}

func TestPiecesKeepNothing(t *testing.T) {
	b := []byte("abcdef")
	l := Pieces(1, 2, b[:3])
	if string(b) != "abcdef" {
		t.Errorf("what was handed in is %q", b)
	}
	clear(b)
	if l[0].L[0].Val != "abc" {
		t.Errorf("what was handed in is kept: %q", l[0].L[0].Val)
	}
}

func TestWriteAndRewrite(t *testing.T) {
	m := medium.New()
	m.Append([]byte("loose"))
	if e := Rewrite(m, fullDeed(), Deed{Do: 1}); e != api.OK || m.Loose() != 0 {
		t.Errorf("Rewrite: %v, %d bytes are loose", e, m.Loose())
	}
	two := m.Bytes()
	if e := Write(m, Deed{Do: 2}, Deed{Do: 3}); e != api.OK || m.Loose() != 0 {
		t.Errorf("Write: %v, %d bytes are loose", e, m.Loose())
	}
	want := plainFrame(7, plainDeed(fullDeed())) + plainFrame(7, plainDeed(Deed{Do: 1})) + plainFrame(7, plainDeed(Deed{Do: 2})) + plainFrame(7, plainDeed(Deed{Do: 3}))
	if string(m.Bytes()) != want || !bytes.HasPrefix(m.Bytes(), two) {
		t.Errorf("the medium has %q, want %q", m.Bytes(), want)
	}
	m.Append([]byte("x"))
	if e := Write(m); e != api.OK || string(m.Bytes()) != want+"x" || m.Loose() != 0 {
		t.Errorf("Write of none: %v, %d bytes are loose", e, m.Loose())
	}
	if e := Rewrite(m); e != api.OK || len(m.Bytes()) != 0 {
		t.Errorf("Rewrite with none: %v, %q", e, m.Bytes())
	}
}

func TestWriteAndRewriteRefuse(t *testing.T) {
	long := Deed{L: []api.Record{{Val: strings.Repeat("x", api.MaxFrame)}}}
	tests := []struct {
		what string
		l    []Deed
		e    api.Errno
	}{
		{"a number that is none", []Deed{{Do: 1}, {Do: -1}, long}, api.ErrArg},
		{"a deed that is too long", []Deed{{Do: 1}, long, {Do: -1}}, api.ErrLong},
	}
	for _, x := range tests {
		m := medium.New()
		m.Swap([]byte("ab"))
		m.Append([]byte("c"))
		if e := Write(m, x.l...); e != x.e || string(m.Bytes()) != "abc" || m.Loose() != 1 {
			t.Errorf("%s: Write %v, %q, %d", x.what, e, m.Bytes(), m.Loose())
		}
		if e := Rewrite(m, x.l...); e != x.e || string(m.Bytes()) != "abc" || m.Loose() != 1 {
			t.Errorf("%s: Rewrite %v, %q, %d", x.what, e, m.Bytes(), m.Loose())
		}
	}
	if a, b := Write(nil, Deed{}), Rewrite(nil, Deed{}); a != api.ErrArg || b != api.ErrArg {
		t.Errorf("no medium: %v, %v", a, b)
	}
}
