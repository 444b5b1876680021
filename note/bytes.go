package note

import (
	"math"

	"gazetteer/api"
	"gazetteer/atlas"
	"gazetteer/once"
	"gazetteer/parcel"
)

// lay answers all parts of n, one behind the other, those that are zero too: so each note has just one row of bytes, whatever its kind. ErrArg: parcel does not take a part.
func lay(n Note) ([]byte, api.Errno) {
	p := parcel.NewPacker(math.MaxInt)
	p.Numbers(n.Kind, n.From, n.To, n.Epoch, n.Tick)
	p.Part(parcel.Ask(n.Ask))
	p.Part(parcel.Reply(n.Reply))
	p.Texts(n.Span.From, n.Span.To)
	parcel.Items(p, n.L, (*parcel.Packer).Record)
	parcel.Items(p, n.Last, layLast)
	p.Numbers(n.Atlas.Epoch)
	parcel.Items(p, n.Atlas.L, layShard)
	return p.Packed()
}

// take answers what lay lays as b. An error: it lays no such bytes.
func take(b []byte) (Note, api.Errno) {
	r := parcel.NewReader(b)
	n := Note{ // the calls are made in the order in which they stand here
		Kind: r.Number(), From: r.Number(), To: r.Number(), Epoch: r.Number(), Tick: r.Number(),
		Ask: parcel.ReadPart(r, parcel.ReadAsk), Reply: parcel.ReadPart(r, parcel.ReadReply),
		Span: takeSpan(r),
		L:    parcel.ReadItems(r, (*parcel.Reader).Record), Last: parcel.ReadItems(r, takeLast),
		Atlas: atlas.Atlas{Epoch: r.Number(), L: parcel.ReadItems(r, takeShard)},
	}
	return n, r.End()
}

// layLast lays the Seq beside the Reply: nothing says that it is the Reply's own.
func layLast(p *parcel.Packer, x once.Last) {
	p.Numbers(x.Seq)
	p.Part(parcel.Reply(x.Reply))
}

func takeLast(r *parcel.Reader) once.Last {
	return once.Last{Seq: r.Number(), Reply: parcel.ReadPart(r, parcel.ReadReply)}
}

func layShard(p *parcel.Packer, x atlas.Shard) {
	p.Texts(x.Span.From, x.Span.To)
	p.Numbers(x.Node, x.Epoch)
}

func takeShard(r *parcel.Reader) atlas.Shard {
	return atlas.Shard{Span: takeSpan(r), Node: r.Number(), Epoch: r.Number()}
}

func takeSpan(r *parcel.Reader) api.Span { return api.Span{From: r.Text(), To: r.Text()} }
