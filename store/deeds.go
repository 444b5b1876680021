package store

import (
	"math"

	"gazetteer/api"
	"gazetteer/journal"
	"gazetteer/once"
	"gazetteer/parcel"
)

// What a deed of a store tells.
const (
	noted   = iota + 1 // Ask was done, and Err answered
	piece              // a part of what the next deed that is no piece tells, as that would be too great for a frame
	held               // what Hold got
	frozen             // the span and its epoch, likewise
	dropped            // likewise
)

// told is what is told of a span: all that Hold got; of others the span and its epoch alone. It goes to the medium as bytes, in pieces, as no bound is set to a span's ends, and to how much Hold gets.
type told struct {
	span  api.Span
	epoch int
	l     []api.Record
	last  []once.Last
}

// pack answers the bytes of x. ErrArg: parcel does not take a number of it, or an answer.
func (x told) pack() ([]byte, api.Errno) {
	p := parcel.NewPacker(math.MaxInt)
	p.Numbers(x.epoch, len(x.l), len(x.last))
	p.Texts(x.span.From, x.span.To)
	for _, r := range x.l {
		p.Texts(r.Text, r.Val)
	}
	for _, y := range x.last {
		b, e := parcel.Reply(y.Reply)
		if e != api.OK {
			return nil, e
		}
		p.Texts(string(b))
	}
	return p.Packed()
}

// readTold answers what b tells (false: nothing). How many items there are said to be is not trusted: there is no item without a byte.
func readTold(b []byte) (told, bool) {
	r := parcel.NewReader(b)
	x := told{epoch: r.Number()}
	records, answers := min(r.Number(), len(b)), min(r.Number(), len(b))
	x.span = api.Span{From: r.Text(), To: r.Text()} // the calls are made in the order in which they stand here
	for range records {
		x.l = append(x.l, api.Record{Text: r.Text(), Val: r.Text()})
	}
	for range answers {
		y, e := parcel.ReadReply([]byte(r.Text()))
		if e != api.OK {
			return told{}, false
		}
		x.last = append(x.last, once.Last{Seq: y.Seq, Reply: y})
	}
	if r.End() != api.OK {
		return told{}, false
	}
	return x, true
}

// tell writes what was done to a span.
func (s *Store) tell(do int, x api.Span, epoch int) api.Errno {
	b, e := told{span: x, epoch: epoch}.pack()
	if e != api.OK {
		return e
	}
	return s.write(journal.Pieces(do, piece, b)...)
}

// write makes deeds durable: all of them, or, with an error, none.
func (s *Store) write(l ...journal.Deed) api.Errno {
	if s.m == nil {
		return api.OK
	}
	return journal.Write(s.m, l...)
}

// again does what deeds tell, up to the first that is refused, and answers how many were done. Pieces are done with the deed that ends them: without it they are nothing.
func (s *Store) again(l []journal.Deed) int {
	done := 0
	var b []byte
	for i, d := range l {
		if d.Do == noted {
			if len(b) > 0 || !s.redo(d.Ask, d.Err) {
				break
			}
			done = i + 1
			continue
		}
		if len(d.L) != 1 || d.L[0].Val == "" {
			break
		}
		b = append(b, d.L[0].Val...)
		if d.Do == piece {
			continue
		}
		if !s.retell(d.Do, b) {
			break
		}
		b, done = nil, i+1
	}
	return done
}

// retell does to a span again what b tells, if it can have come about.
func (s *Store) retell(do int, b []byte) bool {
	x, ok := readTold(b)
	if !ok {
		return false
	}
	e := api.ErrArg
	switch do {
	case held:
		e = s.Hold(x.span, x.epoch, x.l, x.last)
	case frozen:
		_, _, e = s.Freeze(x.span, x.epoch)
	case dropped:
		e = s.Drop(x.span, x.epoch)
	}
	return e == api.OK
}
