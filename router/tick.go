package router

import (
	"fingerpost/api"
	"fingerpost/build"
	"fingerpost/count"
	"fingerpost/frame"
	"fingerpost/proof"
)

// Out is a frame that sets out.
type Out struct {
	To    int
	Bytes []byte
}

// Tick lets time go on by one.
func (r *Router) Tick() ([]Out, api.Errno) {
	if e := r.Dead(); e != api.OK {
		return nil, e
	}
	r.breaks(r.peers.Tick())
	r.routes.Expire(r.Now())
	if e := r.rotate(); e != api.OK {
		return nil, e
	}
	outs := append(r.greet(), r.flooded()...)
	outs = append(outs, r.wanted()...)
	told, e := r.tell()
	if e != api.OK {
		return nil, e
	}
	return append(outs, told...), api.OK
}

// breaks lets all routes by some neighbours go; who has another one is to know at once that it is by that one now.
func (r *Router) breaks(ids []int) {
	var dests []int
	for _, id := range ids {
		dests = append(dests, r.routes.Break(r.Now(), id)...)
	}
	for _, dest := range dests {
		if route, ok := r.routes.Get(dest); ok {
			r.plan.Note(r.Now(), dest, route.Key, true)
		}
	}
}

// greet is a hello to each neighbour.
func (r *Router) greet() []Out {
	h := frame.Hello{Heard: r.peers.Heard()}
	for dest := range r.rules.Spring.Width {
		epoch, _ := r.trusts[dest].Next()
		h.Wants = append(h.Wants, epoch)
	}
	body := frame.PutHello(h)
	var outs []Out
	for _, id := range r.peers.Ids() {
		outs = append(outs, r.send(id, frame.IsHello, body)...)
	}
	return outs
}

// flooded are the records that came new, to all.
func (r *Router) flooded() []Out {
	var outs []Out
	for _, x := range r.flood {
		// Its destination is a node: it isn't refused.
		body, _ := frame.PutRenewal(x)
		outs = append(outs, r.sendAll(frame.IsRenewal, body)...)
	}
	r.flood = nil
	return outs
}

// wanted are the records that neighbours lack, to each its own.
func (r *Router) wanted() []Out {
	var outs []Out
	for _, id := range r.peers.Live() {
		for dest, epoch := range r.wants[id] {
			if x, ok := r.trusts[dest].Signed(epoch); ok {
				body, _ := frame.PutRenewal(x)
				outs = append(outs, r.send(id, frame.IsRenewal, body)...)
			}
		}
		r.wants[id] = nil
	}
	return outs
}

// tell is what is due of the own sequence and of routes; what is told of a route is a floor ahead of that.
func (r *Router) tell() ([]Out, api.Errno) {
	full, dests := r.plan.Due(r.Now())
	entries := build.Entries(r.rules.Spring, r.self, r.shows(), r.routes.Valid(), full, dests)
	for _, x := range entries {
		if x.Dest == r.self {
			continue
		}
		if e := r.lasts(r.vow.Raise(x.Dest, x.Key)); e != api.OK {
			return nil, e
		}
		r.routes.Prune(x.Dest, x.Key)
	}
	var outs []Out
	for _, body := range build.Updates(entries, full, r.rules.Most) {
		outs = append(outs, r.sendAll(frame.IsUpdate, body)...)
	}
	return outs, api.OK
}

// shows is what a node shows of itself.
func (r *Router) shows() build.Own {
	if !r.own.any {
		return build.Own{}
	}
	d, _ := proof.Issue(r.own.spring, proof.Claim{Dest: r.self, Key: r.own.key, Sender: r.self})
	return build.Own{Any: true, Key: r.own.key, Cred: d}
}

// sendAll is a body to all neighbours that are live.
func (r *Router) sendAll(kind int, body []byte) []Out {
	var outs []Out
	for _, id := range r.peers.Live() {
		outs = append(outs, r.send(id, kind, body)...)
	}
	return outs
}

// send is a body to a neighbour, under the next number.
func (r *Router) send(to, kind int, body []byte) []Out {
	bodies, e := build.Bodies(kind, r.sent+1, body, r.rules.Most)
	if e != api.OK {
		return nil
	}
	r.sent++
	var outs []Out
	for _, x := range bodies {
		// Such a kind, and a body of such a length, isn't refused.
		b, _ := r.peers.Seal(to, x.Kind, x.Bytes)
		outs = append(outs, Out{To: to, Bytes: b})
		r.counters.Bump(count.Sent)
	}
	return outs
}
