package vow

import (
	"fingerpost/api"
	"fingerpost/field"
	"fingerpost/rank"
	"fingerpost/renew"
	"math"
)

// The kinds of records.
const (
	isBoot = 1 + iota
	isReserve
	isIndex
	isFloor
	isAnchor
)

// lastKey is the index of the key that the last epoch's record names.
const lastKey = api.MaxEpoch + 1

// lay is a record of numbers.
func lay(kind uint64, numbers ...uint64) []byte {
	o := field.Lay()
	o.U8(kind)
	for _, n := range numbers {
		o.U64(n)
	}
	b, _ := o.Bytes()
	return b
}

func bootRecord(boot uint64) []byte {
	return lay(isBoot, boot)
}

func reserveRecord(k api.Key) []byte {
	return lay(isReserve, uint64(k.Epoch), uint64(k.Seq), 0)
}

func indexRecord(index uint32) []byte {
	return lay(isIndex, uint64(index))
}

func floorRecord(dest int, k api.Key) []byte {
	return lay(isFloor, uint64(dest), uint64(k.Epoch), uint64(k.Seq), uint64(k.Metric))
}

func anchorRecord(x renew.Signed) []byte {
	o := field.Lay()
	renew.Put(o, x)
	b, _ := o.Bytes()
	return append(lay(isAnchor), b...)
}

// snapshot are the records that tell all that a vow has.
func (v *Vow) snapshot() [][]byte {
	l := [][]byte{bootRecord(v.boot)}
	if v.reserved {
		l = append(l, reserveRecord(v.reserve))
	}
	if v.index != 0 {
		l = append(l, indexRecord(v.index))
	}
	for _, dest := range v.floors.Dests() {
		k, _ := v.floors.Get(dest)
		l = append(l, floorRecord(dest, k))
	}
	for dest := range api.MaxNodes {
		for _, x := range v.anchors[dest] {
			l = append(l, anchorRecord(x))
		}
	}
	return l
}

// take turns what a record tells; false: it tells nothing, and the vow is not to be used.
func (v *Vow) take(p []byte) bool {
	i, ok := field.Take(p), false
	switch i.U8() {
	case isBoot:
		ok = v.takeBoot(i.U64())
	case isReserve:
		ok = v.takeReserve(key(i))
	case isIndex:
		ok = v.takeIndex(i.U64())
	case isFloor:
		ok = v.takeFloor(small(i.U64()), key(i))
	case isAnchor:
		ok = v.takeAnchor(renew.Get(i))
	}
	return i.End() == api.OK && ok
}

func (v *Vow) takeBoot(n uint64) bool {
	up := n > v.boot
	v.boot = n
	return up
}

func (v *Vow) takeReserve(k api.Key) bool {
	return rank.Right(k) && k.Metric == 0 && v.lift(k)
}

func (v *Vow) takeIndex(n uint64) bool {
	up := n > uint64(v.index) && n <= lastKey+1
	v.index = small(n)
	return up
}

func (v *Vow) takeFloor(dest uint32, k api.Key) bool {
	up, _ := v.floors.Raise(int(dest), k)
	return up
}

func (v *Vow) takeAnchor(x renew.Signed) bool {
	if v.follows(x.Record) != api.OK {
		return false
	}
	v.add(x)
	return true
}

// key takes a key, which isn't right if a number of it isn't.
func key(i *field.In) api.Key {
	epoch, seq, metric := small(i.U64()), small(i.U64()), small(i.U64())
	return api.Key{Epoch: epoch, Seq: seq, Metric: int(metric)}
}

// small is a number in 32 bits: what doesn't go into them is to stay greater than all that may be told.
func small(n uint64) uint32 {
	return uint32(min(n, math.MaxUint32))
}
