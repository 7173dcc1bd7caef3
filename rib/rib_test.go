package rib

import (
	"fingerpost/api"
	"fingerpost/proof"
	"math"
	"testing"
)

// P19.1: each rule at its edges; what may not be isn't made.
func TestRules(t *testing.T) {
	for _, x := range []struct {
		hold, life int
		ok         bool
	}{
		{0, 1, true}, {0, 1 << 20, true}, {1 << 20, 1, true}, {1 << 20, 1 << 20, true}, {3, 50, true},
		{-1, 5, false}, {1<<20 + 1, 5, false}, {math.MaxInt, 5, false}, {math.MinInt, 5, false}, {1 << 32, 5, false},
		{5, 0, false}, {5, -1, false}, {5, 1<<20 + 1, false}, {5, math.MaxInt, false}, {5, math.MinInt, false}, {5, 1<<32 + 1, false}, {0, 0, false},
	} {
		r := Rules{Hold: x.hold, Life: x.life}
		if Right(r) != x.ok {
			t.Errorf("Right(%v): %v", r, !x.ok)
		}
		if l, e := New(1, r); (l != nil) != x.ok || (e == api.OK) != x.ok || !x.ok && e != api.ErrArg {
			t.Errorf("New(1, %v): %v, %d", r, l, e)
		}
	}
}

// P19.1, Errors: a table of each node, and of none else; no routes are in it.
func TestNew(t *testing.T) {
	for self := range 8 {
		x := made(t, self, Rules{Hold: 3, Life: 5})
		for dest := range 8 {
			none(t, "new", x, dest)
		}
		if l := x.Valid(); len(l) != 0 {
			t.Errorf("new: %v", l)
		}
	}
	for _, self := range noNodes {
		if x, e := New(self, Rules{Hold: 3, Life: 5}); x != nil || e != api.ErrArg {
			t.Errorf("New(%d): %v, %d", self, x, e)
		}
	}
}

// P19.1 to P19.3: the chapter's example.
func TestExample(t *testing.T) {
	x := made(t, 0, Rules{Hold: 3, Life: 100})
	offers(t, "by 1", x, 1, 5, 1, key(0, 1, 2), First)
	offers(t, "by 2", x, 2, 5, 2, key(0, 1, 2), Kept)
	goes(t, "by 1", x, 5, 1, key(0, 1, 2), 1, 2)
	offers(t, "nearer", x, 3, 5, 2, key(0, 1, 1), Nearer)
	goes(t, "by 2", x, 5, 2, key(0, 1, 1), 3, 2)
	dests(t, "Break(5, 2)", x.Break(5, 2), 5)
	goes(t, "by 1 again", x, 5, 1, key(0, 1, 2), 1, 1)
	refuses(t, "at 6", x, 6, 2, known(5, 2, key(0, 1, 1)), api.Key{}, false, api.ErrHold)
	offers(t, "at 8", x, 8, 5, 2, key(0, 1, 1), Nearer)
	goes(t, "by 2 again", x, 5, 2, key(0, 1, 1), 8, 2)
}

// P19.3: all routes by rising destinations, each with what is its own; of self there is none.
func TestValid(t *testing.T) {
	x := made(t, 3, Rules{Hold: 0, Life: 9})
	for at, dest := range []int{6, 0, 7, 2} {
		offers(t, "First", x, int64(10*at), dest, 1, key(0, uint32(dest), 4), First)
	}
	offers(t, "Nearer", x, 50, 2, 7, key(0, 2, 3), Nearer)
	want := []struct {
		dest, next int
		metric     int
		since      int64
		many       int
	}{{0, 1, 4, 10, 1}, {2, 7, 3, 50, 2}, {6, 1, 4, 0, 1}, {7, 1, 4, 20, 1}}
	l := x.Valid()
	if len(l) != len(want) {
		t.Fatalf("Valid: %v", l)
	}
	for at, w := range want {
		k := key(0, uint32(w.dest), w.metric)
		goes(t, "all", x, w.dest, w.next, k, w.since, w.many)
		if r := (Route{Dest: w.dest, Key: k, Next: w.next, Valid: true, Since: w.since, Known: known(w.dest, w.next, k)}); !alike(l[at], r) {
			t.Errorf("Valid: %v, not %v", l[at], r)
		}
	}
	for _, dest := range append(noNodes, 1, 3, 4, 5) {
		none(t, "no route", x, dest)
	}
}

// P19.1, P19.3: each node but self is a destination, and a neighbour, of itself, too.
func TestAllPlaces(t *testing.T) {
	for self := range 8 {
		for dest := range 8 {
			for from := range 8 {
				x := made(t, self, Rules{Hold: 3, Life: 9})
				if dest == self || from == self {
					refuses(t, "of self", x, 1, from, known(dest, from, key(0, 1, 1)), api.Key{}, false, api.ErrArg)
					continue
				}
				offers(t, "one", x, 1, dest, from, key(0, 1, 1), First)
				goes(t, "one", x, dest, from, key(0, 1, 1), 1, 1)
				if l := x.Valid(); len(l) != 1 || l[0].Next != from {
					t.Errorf("Valid: %v", l)
				}
			}
		}
	}
}

// R3: a table keeps nothing of what it was handed, and hands nothing out that it keeps.
func TestMemory(t *testing.T) {
	x := table(t)
	room := known(2, 1, key(0, 1, 1))
	room.Path = append(make([]api.Sum, 0, 9), room.Path...)
	if _, e := x.Offer(1, 1, room, api.Key{}, false); e != api.OK {
		t.Fatalf("Offer: %d", e)
	}
	spoil := func(k proof.Known) {
		for at := range k.Path[:cap(k.Path)] {
			k.Path[:cap(k.Path)][at] = api.Sum{9}
		}
	}
	if spare := room.Path[:9]; spare[2] != (api.Sum{}) || spare[8] != (api.Sum{}) {
		t.Error("the room behind the end has changed")
	}
	spoil(room)
	goes(t, "the argument's path was changed", x, 2, 1, key(0, 1, 1), 1, 1)
	r, _ := x.Get(2)
	spoil(r.Known)
	goes(t, "an answer's path was changed", x, 2, 1, key(0, 1, 1), 1, 1)
	l := x.Valid()
	spoil(l[0].Known)
	goes(t, "a list's path was changed", x, 2, 1, key(0, 1, 1), 1, 1)
	r, _ = x.Get(2)
	spoil(x.Valid()[0].Known)
	if !same(r.Known, known(2, 1, key(0, 1, 1))) {
		t.Error("two answers share a path")
	}
}

// R4: what is known without a path.
func TestNoPath(t *testing.T) {
	for _, path := range [][]api.Sum{nil, {}} {
		x := table(t)
		k := known(2, 1, key(0, 1, 1))
		k.Path = path
		if got, e := x.Offer(1, 1, k, api.Key{}, false); got != First || e != api.OK {
			t.Errorf("%d, %d", got, e)
		}
		if r, ok := x.Get(2); !ok || len(r.Known.Path) != 0 || r.Known.Element != k.Element {
			t.Errorf("%v, %v", r, ok)
		}
	}
}

// R1, Errors
func TestNilTable(t *testing.T) {
	var x *Table
	for _, n := range append(noNodes, 0, 1, 7) {
		for _, now := range append(noTimes, 0, 1) {
			if got, e := x.Offer(now, n, known(2, n, key(0, 1, 1)), key(9, 9, 9), true); got != 0 || e != api.ErrNil {
				t.Errorf("Offer: %d, %d", got, e)
			}
			dests(t, "Break", x.Break(now, n))
			dests(t, "Expire", x.Expire(now))
		}
		is(t, "Prune", x.Prune(n, api.Key{}), api.ErrNil)
		is(t, "Prune", x.Prune(n, noKeys[0]), api.ErrNil)
		none(t, "nil", x, n)
	}
	if l := x.Valid(); len(l) != 0 {
		t.Errorf("Valid: %v", l)
	}
}

// R1: a table that nobody made panics neither.
func TestUnmadeTable(t *testing.T) {
	x := &Table{}
	for _, n := range append(noNodes, 0, 1, 7) {
		for _, now := range append(noTimes, 0, 1) {
			x.Offer(now, n, known(n, n, key(0, 1, 1)), api.Key{}, false)
			x.Break(now, n)
			x.Offer(now, n, known(n, n, key(0, 2, 1)), api.Key{}, false)
			x.Expire(now)
		}
		x.Prune(n, api.Key{Seq: 3})
		x.Get(n)
		x.Offers(n)
		x.Valid()
		x.Lookup(n)
	}
}
