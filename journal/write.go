package journal

import (
	"slices"

	"gazetteer/api"
	"gazetteer/medium"
)

// pieceSize is how many bytes of a piece a deed has: with what else is in a deed it stays below a frame's limit.
const pieceSize = api.MaxFrame / 2

// Pieces answers deeds that tell b, of whatever length: each has a piece of it as the Val of its only record, in order. The Do of the last one is do; those ahead of it have the Do piece, as they tell nothing without it.
func Pieces(do, piece int, b []byte) []Deed {
	var l []Deed
	for c := range slices.Chunk(b, pieceSize) {
		l = append(l, Deed{Do: piece, L: []api.Record{{Val: string(c)}}})
	}
	if len(l) == 0 {
		l = []Deed{{L: []api.Record{{}}}}
	}
	l[len(l)-1].Do = do
	return l
}

// Write appends deeds to m, and syncs it. With an error it has none of them: ErrArg: m is nil; else Add's, of the first deed that has one.
func Write(m *medium.Medium, l ...Deed) api.Errno {
	if m == nil {
		return api.ErrArg
	}
	b, e := frames(l)
	if e != api.OK {
		return e
	}
	m.Append(b)
	m.Sync()
	return api.OK
}

// Rewrite lays deeds in place of all that m has, at once, synced. Its errors are Write's; m is as it was then.
func Rewrite(m *medium.Medium, l ...Deed) api.Errno {
	if m == nil {
		return api.ErrArg
	}
	b, e := frames(l)
	if e != api.OK {
		return e
	}
	m.Swap(b)
	return api.OK
}

// frames answers the bytes of deeds as they lie on a medium.
func frames(l []Deed) ([]byte, api.Errno) {
	m := medium.New()
	for _, d := range l {
		if e := Add(m, d); e != api.OK {
			return nil, e
		}
	}
	return m.Bytes(), api.OK
}
