package journal

import (
	"math"

	"gazetteer/api"
	"gazetteer/parcel"
)

// newPacker answers a packer of parts whose bytes are not bounded: it is the frame that bounds a deed.
func newPacker() *parcel.Packer { return parcel.NewPacker(math.MaxInt) }

// packRecords answers the bytes of l. ErrArg: there are too many of them, or one is too long; List tells neither but by what is missing.
func packRecords(l []api.Record) ([]byte, api.Errno) {
	refused := false
	b := parcel.List(l, func(x api.Record) []byte {
		p := newPacker()
		p.Texts(x.Text, x.Val)
		one, e := p.Packed()
		refused = refused || e != api.OK
		return one
	})
	if refused || b == nil {
		return nil, api.ErrArg
	}
	return b, api.OK
}

// readRecord answers the record that b is. ErrShort, ErrForm: as parcel's Reader tells.
func readRecord(b []byte) (api.Record, api.Errno) {
	r := parcel.NewReader(b)
	x := api.Record{Text: r.Text(), Val: r.Text()} // the calls are made in the order in which they stand here
	if e := r.End(); e != api.OK {
		return api.Record{}, e
	}
	return x, api.OK
}

// short tells whether a part of the deed that b is to be is not there wholly, as far as the parts' lengths tell. It is asked ahead of what the parts hold, as ErrShort goes ahead of a number that is none.
func short(b []byte) bool {
	if len(b) < numbers*numberSize {
		return true
	}
	b = b[numbers*numberSize:]
	for range texts {
		if len(b) < numberSize {
			return true
		}
		many := length(b)
		b = b[numberSize:]
		if uint64(len(b)) < many {
			return true
		}
		b = b[many:]
	}
	return false
}

// length answers how long the text is that b begins with.
func length(b []byte) uint64 {
	n := uint64(0)
	for _, x := range b[:numberSize] {
		n = n<<8 | uint64(x)
	}
	return n
}
