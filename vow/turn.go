package vow

import (
	"fingerpost/api"
	"fingerpost/diary"
	"fingerpost/rank"
	"fingerpost/renew"
)

// Reserve lets own sequences be used, up to one.
func (v *Vow) Reserve(k api.Key) api.Errno {
	if e := v.alive(); e != api.OK {
		return e
	}
	k.Metric = 0
	if !rank.Right(k) {
		return api.ErrArg
	}
	if !v.lift(k) {
		return api.OK
	}
	return v.keep(reserveRecord(k))
}

// Spend lets a key sign, which never did.
func (v *Vow) Spend(index uint32) api.Errno {
	if e := v.alive(); e != api.OK {
		return e
	}
	if index > lastKey {
		return api.ErrArg
	}
	if index < v.index {
		return api.ErrSpent
	}
	v.index = index + 1
	return v.keep(indexRecord(v.index))
}

// Raise lifts a destination's floor.
func (v *Vow) Raise(dest int, k api.Key) api.Errno {
	if e := v.alive(); e != api.OK {
		return e
	}
	if !v.floors.May(dest, k) {
		return api.ErrOld
	}
	up, e := v.floors.Raise(dest, k)
	if e != api.OK || !up {
		return e
	}
	return v.keep(floorRecord(dest, k))
}

// Anchor keeps a record of a destination, the next one of its epochs.
func (v *Vow) Anchor(x renew.Signed) api.Errno {
	e := v.alive()
	if e == api.OK {
		e = v.follows(x.Record)
	}
	if e != api.OK {
		return e
	}
	v.add(x)
	return v.keep(anchorRecord(x))
}

// alive tells why nothing is turned any more.
func (v *Vow) alive() api.Errno {
	if v == nil {
		return api.ErrNil
	}
	return v.dead
}

// lift turns the reserve, if a key is better.
func (v *Vow) lift(k api.Key) bool {
	if v.reserved && rank.Compare(k, v.reserve) <= 0 {
		return false
	}
	v.reserve, v.reserved = k, true
	return true
}

// follows tells why a record isn't its destination's next anchor; the first one may be of any epoch.
func (v *Vow) follows(r renew.Record) api.Errno {
	if r.Dest < 0 || r.Dest >= api.MaxNodes || r.Epoch > api.MaxEpoch {
		return api.ErrArg
	}
	l := v.anchors[r.Dest]
	if len(l) > 0 && r.Epoch != l[len(l)-1].Record.Epoch+1 {
		return api.ErrState
	}
	return api.OK
}

func (v *Vow) add(x renew.Signed) {
	// A vow that didn't come out of Open has no map, and no call may panic on it.
	if v.anchors == nil {
		v.anchors = map[int][]renew.Signed{}
	}
	v.anchors[x.Record.Dest] = append(v.anchors[x.Record.Dest], x)
}

// keep lets a record last. Whoever calls has turned what it tells, so that a snapshot has that, too; an error says that it may be lost, and nothing may be built on it any more.
func (v *Vow) keep(p []byte) api.Errno {
	v.dead = v.write(p)
	return v.dead
}

func (v *Vow) write(p []byte) api.Errno {
	e := v.diary.Append(p)
	if e == api.OK {
		e = v.diary.Flush()
	}
	if e != api.ErrFull {
		return e
	}
	_, gen, e := diary.Load(v.device)
	if e != api.OK {
		return e
	}
	return v.start(gen)
}

// start begins a generation with the snapshot.
func (v *Vow) start(gen uint32) api.Errno {
	d, e := diary.Start(v.device, gen, v.snapshot())
	v.diary = d
	return e
}
