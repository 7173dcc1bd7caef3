package rib

import (
	"fingerpost/api"
	"fingerpost/proof"
	"fingerpost/rank"
)

// What an offer came to.
const (
	Kept = 1 + iota
	Fresh
	Nearer
	Newer
	First
)

// Offer is a neighbour's route, one hop farther, against a floor.
func (t *Table) Offer(now int64, from int, k proof.Known, floor api.Key, has bool) (int, api.Errno) {
	if t == nil {
		return 0, api.ErrNil
	}
	if !t.isOther(k.Dest) || !t.isOther(from) || !rank.Right(k.Key) || !isTime(now) {
		return 0, api.ErrArg
	}
	o := &t.offers[k.Dest][from]
	if has && rank.Compare(floor, k.Key) > 0 || o.stands && rank.Compare(o.known.Key, k.Key) > 0 {
		return 0, api.ErrOld
	}
	if now < o.until && !rank.Newer(k.Key, o.last) {
		return 0, api.ErrHold
	}
	if o.stands && o.known.Key == k.Key {
		o.told = now
		return Fresh, api.OK
	}
	was := t.offers[k.Dest][t.ways[k.Dest]]
	*o = offer{stands: true, told: now, known: copied(k)}
	t.turn(k.Dest)
	if t.ways[k.Dest] != from {
		return Kept, api.OK
	}
	return turned(was, k.Key), api.OK
}

// turned is what an offer came to that is the route now, where there was another one, or none.
func turned(was offer, k api.Key) int {
	if !was.stands {
		return First
	}
	if rank.Newer(k, was.known.Key) {
		return Newer
	}
	return Nearer
}

// turn lets a destination's route go by the best offer.
func (t *Table) turn(dest int) {
	// The last way comes first, and only a better one takes its place: so it stays, if it is one of the best ones, and else the lowest of those is taken.
	way := t.ways[dest]
	for from, o := range t.offers[dest] {
		if o.better(t.offers[dest][way]) {
			way = from
		}
	}
	t.ways[dest] = way
}

func (o offer) better(than offer) bool {
	return o.stands && (!than.stands || rank.Compare(o.known.Key, than.known.Key) > 0)
}

// Break takes all away that a neighbour offers: the destinations to which it was the way.
func (t *Table) Break(now int64, next int) []int {
	return t.drop(now, func(from int, _ offer) bool { return from == next })
}

// Expire takes away what nobody told lately: the destinations to which that was the way.
func (t *Table) Expire(now int64) []int {
	return t.drop(now, func(_ int, o offer) bool { return now-o.told >= int64(t.rules.Life) })
}

// drop takes offers away, and holds those down whose they were: the destinations to which one of them was the way.
func (t *Table) drop(now int64, goes func(from int, o offer) bool) []int {
	if t == nil || !isTime(now) {
		return nil
	}
	until := now + int64(t.rules.Hold)
	var dests []int
	for dest := range api.MaxNodes {
		for from, o := range t.offers[dest] {
			if !o.stands || !goes(from, o) {
				continue
			}
			t.offers[dest][from] = offer{until: until, last: o.known.Key}
			if from == t.ways[dest] {
				dests = append(dests, dest)
			}
		}
		t.turn(dest)
	}
	return dests
}

// Prune takes away what is worse than a floor.
func (t *Table) Prune(dest int, floor api.Key) api.Errno {
	if t == nil {
		return api.ErrNil
	}
	if !t.isOther(dest) || !rank.Right(floor) {
		return api.ErrArg
	}
	// Nobody else becomes the way: where the best offer goes, all go.
	for from, o := range t.offers[dest] {
		if o.stands && rank.Compare(floor, o.known.Key) > 0 {
			t.offers[dest][from] = offer{}
		}
	}
	return api.OK
}
