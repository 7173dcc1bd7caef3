package router

import (
	"fingerpost/api"
	"fingerpost/count"
	"fingerpost/frame"
	"fingerpost/proof"
	"fingerpost/rank"
	"fingerpost/rib"
	"fingerpost/spring"
	"slices"
)

func (r *Router) update(from int, b []byte) api.Errno {
	u, e := frame.GetUpdate(b)
	if e != api.OK {
		return e
	}
	r.counters.Bump(count.Updates)
	if !r.peers.IsLive(from) {
		return api.ErrState
	}
	return r.answer(r.entries(from, u.Entries))
}

// entries are what an update's entries came to, each by its own; none behind what can't be paid.
func (r *Router) entries(from int, l []frame.Entry) []api.Errno {
	var errs []api.Errno
	for _, x := range l {
		r.counters.Bump(count.Entries)
		e := r.entry(from, x)
		errs = append(errs, e)
		if e == api.ErrToll {
			break
		}
	}
	return errs
}

// answer is what an update came to, of what its entries did; the errors that it doesn't answer are counted here.
func (r *Router) answer(errs []api.Errno) api.Errno {
	first := api.OK
	if len(errs) > 0 && !slices.Contains(errs, api.OK) {
		first, errs = errs[0], errs[1:]
	}
	for _, e := range errs {
		r.refused(e)
	}
	return first
}

// entry takes what a neighbour claims, if it is new enough, and shown.
func (r *Router) entry(from int, x frame.Entry) api.Errno {
	if x.Dest == r.self {
		return api.ErrOld
	}
	c := proof.Claim{Dest: x.Dest, Key: x.Key, Sender: from}
	if !proof.Right(r.rules.Spring, c) {
		return api.ErrArg
	}
	far, e := rank.Hop(x.Key)
	if e != api.OK {
		return e
	}
	floor, has := r.vow.Floor(x.Dest)
	if has && rank.Compare(floor, far) > 0 {
		return api.ErrOld
	}
	above, e := r.shown(c, x.Cred)
	if e != api.OK {
		return e
	}
	came, e := r.routes.Offer(r.Now(), from, proof.Learn(c, above, x.Cred), floor, has)
	if e != api.OK {
		return e
	}
	if came == rib.First || came == rib.Nearer || came == rib.Newer {
		r.counters.Bump(count.Taken)
		r.plan.Note(r.Now(), x.Dest, far, came == rib.First)
	}
	return api.OK
}

// shown is the element above a claim's rung, if the claim is shown, and its sender can pay for the check.
func (r *Router) shown(c proof.Claim, d proof.Cred) (api.Sum, api.Errno) {
	root, ok := r.trusts[c.Dest].Root(c.Key.Epoch)
	if !ok {
		return api.Sum{}, api.ErrNone
	}
	rules := r.rules.Spring
	known, quick := r.farther(c)
	cost := proof.Cost(rules, c.Key.Metric)
	if quick {
		cost = proof.QuickCost(rules, c.Key.Metric, known.Key.Metric)
	}
	spare := r.peers.Toll(c.Sender)
	if e := spare.Hold(cost); e != api.OK {
		return api.Sum{}, e
	}
	above, e := checked(rules, root, known, quick, c, d)
	spare.Settle(cost)
	return above, e
}

// farther is what is known of a claim's sequence, if that is of a farther rung.
func (r *Router) farther(c proof.Claim) (proof.Known, bool) {
	route, ok := r.routes.Get(c.Dest)
	k := route.Known.Key
	if !ok || k.Epoch != c.Key.Epoch || k.Seq != c.Key.Seq || k.Metric <= c.Key.Metric {
		return proof.Known{}, false
	}
	return route.Known, true
}

// checked holds a claim against what is known, or else against its epoch's root.
func checked(r spring.Rules, root api.Sum, known proof.Known, quick bool, c proof.Claim, d proof.Cred) (api.Sum, api.Errno) {
	if !quick {
		return proof.Check(r, root, c, d)
	}
	above, ok := proof.Quick(r, known, c, d)
	if !ok {
		return api.Sum{}, api.ErrProof
	}
	return above, api.OK
}
