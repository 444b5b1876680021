// Package scalar reads and writes UTF-8: a text's bytes as runes, runes as a text.
package scalar

import (
	"strings"
	"unicode/utf8"

	"gazetteer/api"
)

// unit is what a text is made of: bytes as it is kept, runes as it is read.
type unit interface{ byte | rune }

// Read answers the runes of s; ErrText: its bytes are no UTF-8.
func Read(s string) ([]rune, api.Errno) {
	return turn([]byte(s), readFirst)
}

// Write answers the text of the runes l; ErrText: one of them may not be.
func Write(l []rune) (string, api.Errno) {
	b, e := turn(l, writeFirst)
	return string(b), e
}

// May tells whether r may stand in a text: from 0 to U+10FFFF, no surrogate.
func May(r rune) bool { return utf8.ValidRune(r) }

// Compare orders a and b by their bytes: -1, 0, 1.
func Compare(a, b string) int { return strings.Compare(a, b) }

// turn puts units of one kind as units of the other. It counts ahead of filling, so that nothing is made of a text that is wrong further on.
func turn[A, B unit](l []A, first func(out []B, l []A) ([]B, int)) ([]B, api.Errno) {
	many, ok := count(l, first)
	if !ok {
		return nil, api.ErrText
	}
	return fill(many, l, first), api.OK
}

// count tells how many units l comes to (false: some place of it has no piece that may be). What first answers is how many units of l its first piece has, 0 if it may not be.
func count[A, B unit](l []A, first func(out []B, l []A) ([]B, int)) (int, bool) {
	var room [utf8.UTFMax]B
	many := 0
	for len(l) > 0 {
		piece, used := first(room[:0], l)
		if used == 0 {
			return 0, false
		}
		many += len(piece)
		l = l[used:]
	}
	return many, true
}

// fill makes the units that l comes to, many of them; count has seen that each piece may be, so each step goes on.
func fill[A, B unit](many int, l []A, first func(out []B, l []A) ([]B, int)) []B {
	out := make([]B, 0, many)
	used := 0
	for len(l) > 0 {
		out, used = first(out, l)
		l = l[used:]
	}
	return out
}

// readFirst appends the rune that b begins with, and tells how many bytes it has.
func readFirst(out []rune, b []byte) ([]rune, int) {
	r, used := utf8.DecodeRune(b)
	if r == utf8.RuneError && used < 2 { // U+FFFD itself may stand in a text: it has three bytes
		return out, 0
	}
	return append(out, r), used
}

// writeFirst appends the bytes of the rune that l begins with.
func writeFirst(out []byte, l []rune) ([]byte, int) {
	if !May(l[0]) {
		return out, 0
	}
	return utf8.AppendRune(out, l[0]), 1
}
