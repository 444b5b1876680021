package store

import (
	"math"
	"slices"

	"gazetteer/api"
	"gazetteer/journal"
	"gazetteer/medium"
	"gazetteer/once"
	"gazetteer/parcel"
)

// What a deed of a store tells.
const (
	noted   = iota + 1 // Ask was done, and Err answered
	piece              // a part of what the next deed that is no piece tells, as that would be too great for a frame
	held               // what Hold got
	frozen             // the span and its epoch, likewise
	dropped            // likewise
)

// pieceSize is how many bytes of what is told a deed has at most: with what else is in a deed it stays below a frame's limit.
const pieceSize = api.MaxFrame / 2

// told is what is told of a span: all that Hold got; of others the span and its epoch alone. It goes to the medium as bytes, in pieces, as no bound is set to a span's ends, and to how much Hold gets.
type told struct {
	span  api.Span
	epoch int
	l     []api.Record
	last  []once.Last
}

// pack answers the bytes of x. ErrArg: parcel does not take a number of it, or an answer.
func (x told) pack() ([]byte, api.Errno) {
	p := parcel.NewPacker(math.MaxInt)
	p.Numbers(x.epoch, len(x.l), len(x.last))
	p.Texts(x.span.From, x.span.To)
	for _, r := range x.l {
		p.Texts(r.Text, r.Val)
	}
	for _, y := range x.last {
		b, e := parcel.Reply(y.Reply)
		if e != api.OK {
			return nil, e
		}
		p.Texts(string(b))
	}
	return p.Packed()
}

// readTold answers what b tells (false: nothing). How many items there are said to be is not trusted: there is no item without a byte.
func readTold(b []byte) (told, bool) {
	r := parcel.NewReader(b)
	x := told{epoch: r.Number()}
	records, answers := min(r.Number(), len(b)), min(r.Number(), len(b))
	x.span = api.Span{From: r.Text(), To: r.Text()} // the calls are made in the order in which they stand here
	for range records {
		x.l = append(x.l, api.Record{Text: r.Text(), Val: r.Text()})
	}
	for range answers {
		y, e := parcel.ReadReply([]byte(r.Text()))
		if e != api.OK {
			return told{}, false
		}
		x.last = append(x.last, once.Last{Seq: y.Seq, Reply: y})
	}
	if r.End() != api.OK {
		return told{}, false
	}
	return x, true
}

// deeds answers the deeds that tell b: pieces, of which the last one says what it is.
func deeds(do int, b []byte) []journal.Deed {
	var l []journal.Deed
	for c := range slices.Chunk(b, pieceSize) {
		l = append(l, journal.Deed{Do: piece, L: []api.Record{{Val: string(c)}}})
	}
	l[len(l)-1].Do = do // b is never empty
	return l
}

// tell writes what was done to a span.
func (s *Store) tell(do int, x api.Span, epoch int) api.Errno {
	b, e := told{span: x, epoch: epoch}.pack()
	if e != api.OK {
		return e
	}
	return s.write(deeds(do, b)...)
}

// write makes deeds durable: all of them, or, with an error, none.
func (s *Store) write(l ...journal.Deed) api.Errno {
	if s.m == nil {
		return api.OK
	}
	b, e := frames(l)
	if e != api.OK {
		return e
	}
	s.m.Append(b)
	s.m.Sync()
	return api.OK
}

// frames answers the bytes of deeds as they lie on a medium.
func frames(l []journal.Deed) ([]byte, api.Errno) {
	m := medium.New()
	for _, d := range l {
		if e := journal.Add(m, d); e != api.OK {
			return nil, e
		}
	}
	return m.Bytes(), api.OK
}

// cut leaves these deeds on m, which it begins with, and no others.
func cut(m *medium.Medium, l []journal.Deed) {
	if b, e := frames(l); e == api.OK { // what was read can be written
		m.Swap(b)
	}
}

// again does what deeds tell, up to the first that is refused, and answers how many were done. Pieces are done with the deed that ends them: without it they are nothing.
func (s *Store) again(l []journal.Deed) int {
	done := 0
	var b []byte
	for i, d := range l {
		if d.Do == noted {
			if len(b) > 0 || !s.redo(d.Ask, d.Err) {
				break
			}
			done = i + 1
			continue
		}
		if len(d.L) != 1 || d.L[0].Val == "" {
			break
		}
		b = append(b, d.L[0].Val...)
		if d.Do == piece {
			continue
		}
		if !s.retell(d.Do, b) {
			break
		}
		b, done = nil, i+1
	}
	return done
}

// retell does to a span again what b tells, if it can have come about.
func (s *Store) retell(do int, b []byte) bool {
	x, ok := readTold(b)
	if !ok {
		return false
	}
	e := api.ErrArg
	switch do {
	case held:
		e = s.Hold(x.span, x.epoch, x.l, x.last)
	case frozen:
		_, _, e = s.Freeze(x.span, x.epoch)
	case dropped:
		e = s.Drop(x.span, x.epoch)
	}
	return e == api.OK
}
