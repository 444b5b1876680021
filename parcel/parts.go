package parcel

import "gazetteer/api"

// How many bytes a number and a truth have.
const (
	numberSize = 4
	truthSize  = 1
)

// Packer lays parts one behind the other. Its zero value has room for none.
type Packer struct {
	most    int
	b       []byte
	refused bool
}

// NewPacker answers a packer without a part, that has room for most bytes.
func NewPacker(most int) *Packer { return &Packer{most: most} }

// Numbers lays each of l in four bytes, the highest first.
func (p *Packer) Numbers(l ...int) {
	for _, n := range l {
		if n < 0 || n > MaxNumber {
			p.refuse()
			return
		}
		p.lay(string([]byte{byte(n >> 24), byte(n >> 16), byte(n >> 8), byte(n)}))
	}
}

// Texts lays of each of l how many bytes it has, a number, and these.
func (p *Packer) Texts(l ...string) {
	for _, s := range l {
		p.Numbers(len(s))
		p.lay(s)
	}
}

// Truth lays a byte 0 or 1.
func (p *Packer) Truth(t bool) {
	if t {
		p.lay("\x01")
	} else {
		p.lay("\x00")
	}
}

// Record lays a record: its texts.
func (p *Packer) Record(x api.Record) { p.Texts(x.Text, x.Val) }

// Part lays b as a text, where e is what was told beside b. An e that is not OK is refused.
func (p *Packer) Part(b []byte, e api.Errno) {
	if e != api.OK {
		p.refuse()
	}
	p.Texts(string(b))
}

// Items lays how many items l has, and each of them by one. More than 2^20 are refused.
func Items[T any](p *Packer, l []T, one func(*Packer, T)) {
	if one == nil || len(l) > maxItems {
		p.refuse()
		return
	}
	p.Numbers(len(l))
	for _, x := range l {
		one(p, x)
	}
}

// Packed answers all parts, and leaves nothing. ErrArg: a part was refused: a number was not from 0 to MaxNumber, or there was no room.
func (p *Packer) Packed() ([]byte, api.Errno) {
	if p == nil {
		return nil, api.ErrArg
	}
	b, refused := p.b, p.refused
	p.b, p.refused = nil, false
	if refused {
		return nil, api.ErrArg
	}
	return b, api.OK
}

// lay lays s at the end. Behind a part that was refused nothing is laid any more, so that what is too long takes no room.
func (p *Packer) lay(s string) {
	switch {
	case p == nil || p.refused:
	case len(s) > p.most-len(p.b):
		p.refuse()
	default:
		p.b = append(p.b, s...)
	}
}

func (p *Packer) refuse() {
	if p != nil {
		p.b, p.refused = nil, true
	}
}

// Reader takes parts off bytes, from the front. Behind one that is not there, or that is none, each is its zero value, and End tells why.
type Reader struct {
	s string
	e api.Errno
}

// NewReader answers a reader of b as it is now.
func NewReader(b []byte) *Reader { return &Reader{s: string(b)} }

// Number takes a number. ErrShort: it is not there wholly; ErrForm: it is above MaxNumber.
func (r *Reader) Number() int {
	n := uint32(0)
	for _, x := range []byte(r.take(numberSize)) {
		n = n<<8 | uint32(x)
	}
	if n > MaxNumber {
		r.fail(api.ErrForm)
		return 0
	}
	return int(n)
}

// Text takes a text. ErrShort: it is not there wholly; ErrForm: its length is above MaxNumber.
func (r *Reader) Text() string { return r.take(r.Number()) }

// Truth takes a truth. ErrShort: it is not there; ErrForm: it is none.
func (r *Reader) Truth() bool {
	s := r.take(truthSize)
	if s > "\x01" {
		r.fail(api.ErrForm)
	}
	return s == "\x01"
}

// Record takes a record: its texts.
func (r *Reader) Record() api.Record { return api.Record{Text: r.Text(), Val: r.Text()} }

// ReadPart takes a text, and answers what one answers of its bytes. What one says is wrong with them is wrong with the part.
func ReadPart[T any](r *Reader, one func([]byte) (T, api.Errno)) T {
	var none T
	s := r.Text()
	if r == nil || r.e != api.OK {
		return none
	}
	if one == nil {
		r.fail(api.ErrArg)
		return none
	}
	x, e := one([]byte(s))
	if e != api.OK {
		r.fail(e)
		return none
	}
	return x
}

// ReadItems takes how many items there are, and each of them by one. How many there are said to be is not trusted: it ends behind a part that is not there.
func ReadItems[T any](r *Reader, one func(*Reader) T) []T {
	many := r.Number()
	if r == nil || r.e != api.OK {
		return nil
	}
	if one == nil {
		r.fail(api.ErrArg)
		return nil
	}
	var l []T
	for ; many > 0 && r.e == api.OK; many-- {
		l = append(l, one(r))
	}
	if r.e != api.OK {
		return nil
	}
	return l
}

// End tells the first error that was met. ErrForm: there was none, and bytes are left.
func (r *Reader) End() api.Errno {
	switch {
	case r == nil:
		return api.ErrArg
	case r.e == api.OK && r.s != "":
		return api.ErrForm
	}
	return r.e
}

// take takes that many bytes.
func (r *Reader) take(many int) string {
	if r == nil || r.e != api.OK {
		return ""
	}
	if len(r.s) < many {
		r.fail(api.ErrShort)
		return ""
	}
	s := r.s[:many]
	r.s = r.s[many:]
	return s
}

// fail is called where r met an error: no byte is looked at any more.
func (r *Reader) fail(e api.Errno) { r.s, r.e = "", e }
