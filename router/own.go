package router

import (
	"fingerpost/api"
	"fingerpost/count"
	"fingerpost/rank"
	"fingerpost/renew"
	"fingerpost/spring"
)

// rotate begins the next own sequence, as soon as the last one is old.
func (r *Router) rotate() api.Errno {
	if r.own.any && r.Now()-r.own.began < int64(r.rules.Rotate) {
		return api.OK
	}
	k, ok := r.next()
	if !ok {
		return api.OK
	}
	return r.begin(k)
}

// next is the own sequence's next one; false, if there is none.
func (r *Router) next() (api.Key, bool) {
	last, has := r.own.key, r.own.any
	if !has {
		last, has = r.vow.Reserved()
	}
	if !has {
		return api.Key{}, true
	}
	k, e := rank.Next(last, r.rules.Spring.Height)
	return k, e == api.OK
}

// begin begins an own sequence: that it may be used lasts ahead of all else.
func (r *Router) begin(k api.Key) api.Errno {
	if e := r.lasts(r.vow.Reserve(k)); e != api.OK {
		return e
	}
	s := r.own.spring
	if s == nil || k.Epoch != r.own.key.Epoch {
		s = r.source(k.Epoch)
	}
	r.own = own{any: true, key: k, began: r.Now(), spring: s}
	for {
		epoch, _ := r.trusts[r.self].Next()
		if epoch > k.Epoch {
			break
		}
		if e := r.issue(epoch); e != api.OK {
			return e
		}
	}
	r.plan.Note(r.Now(), r.self, k, true)
	return api.OK
}

// source is an own epoch's spring.
func (r *Router) source(epoch uint32) *spring.Spring {
	s, _ := spring.New(r.rules.Spring, r.seed, r.self, epoch)
	return s
}

// issue signs an own epoch's record. Where a crash came between the key's use and the anchor, the key signs that one record again, and no other.
func (r *Router) issue(epoch uint32) api.Errno {
	if r.vow.Index() <= epoch {
		if e := r.lasts(r.vow.Spend(epoch)); e != api.OK {
			return e
		}
	}
	s := r.own.spring
	if epoch != r.own.key.Epoch {
		s = r.source(epoch)
	}
	x, _ := renew.Issue(s, r.seed, r.self, epoch)
	if e := r.lasts(r.trusts[r.self].Take(x)); e != api.OK {
		return e
	}
	return r.keep(x)
}

// keep lets a record last that was taken, and lets neighbours know of it.
func (r *Router) keep(x renew.Signed) api.Errno {
	r.flood = append(r.flood, x)
	return r.lasts(r.vow.Anchor(x))
}

// lasts passes on what was answered of something that must last: behind an error the node does nothing any more.
func (r *Router) lasts(e api.Errno) api.Errno {
	if e != api.OK {
		r.dead = e
		r.counters.Bump(count.Broken)
	}
	return e
}
