package router

import (
	"fingerpost/api"
	"fingerpost/count"
	"fingerpost/fib"
	"fingerpost/rib"
)

// Dead is why the node is silent; OK: it isn't.
func (r *Router) Dead() api.Errno {
	if r == nil {
		return api.ErrNil
	}
	return r.dead
}

// Fib is the node's table of hops.
func (r *Router) Fib() []fib.Hop {
	if r.Dead() != api.OK {
		return nil
	}
	return fib.Derive(r.routes.Valid(), r.peers.Live())
}

// Floor is a destination's floor.
func (r *Router) Floor(dest int) (api.Key, bool) {
	if r.Dead() != api.OK {
		return api.Key{}, false
	}
	return r.vow.Floor(dest)
}

// Route is a destination's route.
func (r *Router) Route(dest int) (rib.Route, bool) {
	if r.Dead() != api.OK {
		return rib.Route{}, false
	}
	return r.routes.Get(dest)
}

// Own is the own sequence.
func (r *Router) Own() (api.Key, bool) {
	if r.Dead() != api.OK {
		return api.Key{}, false
	}
	return r.own.key, r.own.any
}

// Live are the neighbours that are live.
func (r *Router) Live() []int {
	if r.Dead() != api.OK {
		return nil
	}
	return r.peers.Live()
}

// Roots is how many records of a destination are known.
func (r *Router) Roots(dest int) int {
	if r.Dead() != api.OK || dest < 0 || dest >= len(r.trusts) {
		return 0
	}
	return len(r.trusts[dest].Epochs())
}

// Counters are the node's counters.
func (r *Router) Counters() []int64 {
	if r == nil {
		return make([]int64, count.Many)
	}
	return r.counters.All()
}

// Now is the node's time.
func (r *Router) Now() int64 {
	if r == nil {
		return 0
	}
	return r.peers.Now()
}

// Boot is how often the node was started.
func (r *Router) Boot() uint64 {
	if r == nil {
		return 0
	}
	return r.vow.Boot()
}

// Spent is the first key that didn't sign.
func (r *Router) Spent() uint32 {
	if r == nil {
		return 0
	}
	return r.vow.Index()
}
