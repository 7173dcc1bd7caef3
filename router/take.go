package router

import (
	"fingerpost/api"
	"fingerpost/build"
	"fingerpost/count"
	"fingerpost/frame"
	"fingerpost/piece"
	"fingerpost/renew"
)

// Take takes a frame.
func (r *Router) Take(b []byte) api.Errno {
	if e := r.Dead(); e != api.OK {
		return e
	}
	r.counters.Bump(count.Frames)
	e := r.take(b)
	r.refused(e)
	return e
}

// refused counts an error by its counter, if it has one.
func (r *Router) refused(e api.Errno) {
	r.counters.Bump(count.Of(e))
}

func (r *Router) take(b []byte) api.Errno {
	f, e := r.peers.Admit(b)
	if e != api.OK {
		return e
	}
	// In another boot the bodies' numbers begin anew, and what was wanted is of a node that isn't there any more.
	if f.Boot != r.boots[f.From] {
		r.boots[f.From], r.joiners[f.From], r.wants[f.From] = f.Boot, piece.New(), nil
	}
	return r.do(f.From, f.Kind, f.Body)
}

// do does a neighbour's body.
func (r *Router) do(from, kind int, b []byte) api.Errno {
	switch kind {
	case frame.IsHello:
		return r.hello(from, b)
	case frame.IsUpdate:
		return r.update(from, b)
	case frame.IsRenewal:
		return r.renewal(from, b)
	}
	return r.piece(from, b)
}

func (r *Router) hello(from int, b []byte) api.Errno {
	h, e := frame.GetHello(b)
	if e != api.OK {
		return e
	}
	r.counters.Bump(count.Hellos)
	r.wants[from] = h.Wants
	up, e := r.peers.Hello(from, h)
	if e != api.OK {
		return e
	}
	if up {
		r.noteAll()
	}
	if !r.peers.IsLive(from) {
		r.breaks([]int{from})
	}
	return api.OK
}

// noteAll lets all be told as soon as may be: a neighbour came that knows nothing of it.
func (r *Router) noteAll() {
	for _, route := range r.routes.Valid() {
		r.plan.Note(r.Now(), route.Dest, route.Key, true)
	}
	if r.own.any {
		r.plan.Note(r.Now(), r.self, r.own.key, true)
	}
}

func (r *Router) piece(from int, b []byte) api.Errno {
	p, e := piece.Get(b)
	if e != api.OK {
		return e
	}
	r.counters.Bump(count.Pieces)
	body, done, e := r.joiners[from].Take(p)
	if e != api.OK || !done {
		return e
	}
	// What was whole is no piece: this goes no deeper.
	kind, b, e := build.Whole(body)
	if e != api.OK {
		return e
	}
	return r.do(from, kind, b)
}

func (r *Router) renewal(from int, b []byte) api.Errno {
	x, e := frame.GetRenewal(b)
	if e != api.OK {
		return e
	}
	t := r.trusts[x.Record.Dest]
	if t == nil || x.Record.Dest == r.self {
		return api.ErrOld
	}
	r.counters.Bump(count.Renewals)
	if e := t.Look(x); e != api.OK {
		return e
	}
	spare := r.peers.Toll(from)
	if e := spare.Hold(renew.Worst); e != api.OK {
		return e
	}
	e = t.Take(x)
	spare.Settle(renew.Cost(x.Record))
	if e != api.OK {
		return e
	}
	return r.keep(x)
}
