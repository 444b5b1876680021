package store

import (
	"math"

	"gazetteer/api"
	"gazetteer/journal"
	"gazetteer/sortkey"
	"gazetteer/span"
)

// What an ask may want done.
const (
	put = iota + 1
	remove
	get
	page
)

// What once.See tells of an ask.
const (
	fresh = iota
	answered
)

// Do does what a client asks, and answers that. False: the ask is not for s to answer: what holds its key, not Frozen, is elsewhere (ErrEpoch), or the client has an answer to a later one (nothing).
func (s *Store) Do(a api.Ask) (api.Reply, bool) {
	if s == nil {
		return api.Reply{}, false
	}
	key, e := s.keyOf(a)
	if e != api.OK {
		return refuse(a, e), true
	}
	p := s.live(key)
	if p == nil {
		return refuse(a, api.ErrEpoch), false
	}
	switch a.Do {
	case get:
		return p.get(key, a), true
	case page:
		return p.page(a), true
	}
	r, how := p.answer(key, a, s.full)
	if how != fresh {
		return r, how == answered
	}
	if e := s.write(deedOf(a, r.Err)); e != api.OK {
		return refuse(a, e), true
	}
	p.note(key, a, r)
	return r, true
}

// redo does again what was noted, if it can have come about. Whether there was room its error tells, as the store may have had another full.
func (s *Store) redo(a api.Ask, e api.Errno) bool {
	key, wrong := s.keyOf(a)
	p := s.live(key)
	if wrong != api.OK || p == nil || !from(put, a.Do, remove) {
		return false
	}
	full := math.MaxInt
	if e == api.ErrFull {
		full = 0
	}
	r, how := p.answer(key, a, full)
	if r.Err != e || how > answered {
		return false
	}
	if how == fresh {
		p.note(key, a, r)
	}
	return true
}

// keyOf answers the key that a is about. ErrArg: a number of it may not be; else the text's error; ErrLong: a value to be put is too long.
func (s *Store) keyOf(a api.Ask) (string, api.Errno) {
	switch {
	case !from(put, a.Do, page) || !from(0, a.Client, api.MaxClients-1) || a.Seq < 0:
		return "", api.ErrArg
	case a.Do == page && !from(1, a.Limit, api.MaxPage):
		return "", api.ErrArg
	case a.Do == page:
		return a.From, api.OK
	}
	key, e := sortkey.Make(s.t, a.Text)
	if e == api.OK && a.Do == put && len(a.Val) > api.MaxVal {
		return "", api.ErrLong
	}
	return key, e
}

// live answers the part that has the key (nil: none has it, or it is frozen).
func (s *Store) live(key string) *part {
	at := s.place(key)
	if at == none || s.l[at].frozen {
		return nil
	}
	return s.l[at]
}

// get answers what lies under the key.
func (p *part) get(key string, a api.Ask) api.Reply {
	r := reply(a)
	var x api.Record
	x, r.Found = p.records.Get(key)
	r.Val = x.Val
	return r
}

// page answers the records from a's From on, below its To and p's own end, as many as there may be, and where they end.
func (p *part) page(a api.Ask) api.Reply {
	r := reply(a)
	ahead := span.Meet(api.Span{To: a.To}, api.Span{To: p.span.To}) // from the first key on, so that it is not Empty, wherever a begins
	r.Next = ahead.To
	p.records.Walk(a.From, func(key string, x api.Record) bool {
		if !span.Has(ahead, key) {
			return false
		}
		if len(r.L) == a.Limit {
			r.Next = key
			return false
		}
		r.L = append(r.L, x)
		return true
	})
	r.More = r.Next < a.To || a.To == "" && r.Next != ""
	return r
}

// answer tells what a put or a delete is to be answered, where there may be full records; and what was known of it: fresh, it is yet to be done; answered, that was the answer; else it is past.
func (p *part) answer(key string, a api.Ask, full int) (api.Reply, int) {
	if r, how := p.last.See(a.Client, a.Seq); how != fresh {
		return r, how
	}
	r := reply(a)
	_, r.Found = p.records.Get(key)
	if a.Do == put && !r.Found && p.records.Len() >= full {
		r.Err = api.ErrFull
	}
	return r, fresh
}

// note does a put or a delete, if it is not refused, and keeps its answer.
func (p *part) note(key string, a api.Ask, r api.Reply) {
	switch {
	case r.Err != api.OK:
	case a.Do == put:
		p.records.Put(key, api.Record{Text: a.Text, Val: a.Val})
	default:
		p.records.Take(key)
	}
	p.last.Note(r)
}

// deedOf answers the deed that notes a, and how it was answered. What is no part of a put or a delete is left out: nobody asked whether it may be.
func deedOf(a api.Ask, e api.Errno) journal.Deed {
	d := journal.Deed{Do: noted, Ask: api.Ask{Do: a.Do, Client: a.Client, Seq: a.Seq, Text: a.Text}, Err: e}
	if a.Do == put {
		d.Ask.Val = a.Val
	}
	return d
}

// reply answers a reply to a that tells nothing yet.
func reply(a api.Ask) api.Reply { return api.Reply{Client: a.Client, Seq: a.Seq} }

// refuse answers a with an error.
func refuse(a api.Ask, e api.Errno) api.Reply {
	r := reply(a)
	r.Err = e
	return r
}
