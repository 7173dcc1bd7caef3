package rib

import (
	"fingerpost/api"
	"fingerpost/proof"
	"math"
	"slices"
	"testing"
)

const maxTick = 1 << 40

// noNodes are numbers of no node.
var noNodes = []int{-1, -2, 8, 9, 16, 256, 1 << 32, math.MaxInt, math.MinInt}

// noTimes are no times.
var noTimes = []int64{-1, -2, maxTick + 1, 1 << 41, math.MaxInt64, math.MinInt64}

// noKeys aren't right, each by one number.
var noKeys = []api.Key{
	{Epoch: 1<<16 + 1}, {Epoch: math.MaxUint32}, {Seq: 1 << 6}, {Seq: math.MaxUint32},
	{Metric: -1}, {Metric: 16}, {Metric: math.MaxInt}, {Metric: math.MinInt},
}

func made(t *testing.T, self int, r Rules) *Table {
	t.Helper()
	x, e := New(self, r)
	if x == nil || e != api.OK {
		t.Fatalf("New(%d, %v): %v, %d", self, r, x, e)
	}
	return x
}

// table is one of the node 0, under rules by which nothing goes by itself.
func table(t *testing.T) *Table {
	t.Helper()
	return made(t, 0, Rules{Hold: 3, Life: 1 << 20})
}

func key(epoch, seq uint32, metric int) api.Key {
	return api.Key{Epoch: epoch, Seq: seq, Metric: metric}
}

// known is what is known of a key by some neighbour's offer: other sums for each.
func known(dest, from int, k api.Key) proof.Known {
	b := [16]byte{byte(dest), byte(from), byte(k.Epoch), byte(k.Seq), byte(k.Metric)}
	return proof.Known{Dest: dest, Key: k, Element: b, Path: []api.Sum{b, {15: 1}}}
}

func same(a, b proof.Known) bool {
	return a.Dest == b.Dest && a.Key == b.Key && a.Element == b.Element && slices.Equal(a.Path, b.Path)
}

func alike(a, b Route) bool {
	return a.Dest == b.Dest && a.Key == b.Key && a.Next == b.Next && a.Valid == b.Valid && a.Since == b.Since && same(a.Known, b.Known)
}

// offers holds a table to what an offer without a floor comes to.
func offers(t *testing.T, what string, x *Table, now int64, dest, from int, k api.Key, want int) {
	t.Helper()
	if got, e := x.Offer(now, from, known(dest, from, k), api.Key{}, false); got != want || e != api.OK {
		t.Errorf("%s: %d, %d, not %d", what, got, e, want)
	}
}

func refuses(t *testing.T, what string, x *Table, now int64, from int, k proof.Known, floor api.Key, has bool, want api.Errno) {
	t.Helper()
	before := told(x)
	if got, e := x.Offer(now, from, k, floor, has); got != 0 || e != want {
		t.Errorf("%s: %d, %d, not %d", what, got, e, want)
	}
	if !slices.EqualFunc(told(x), before, alike) {
		t.Errorf("%s: refused, but %v, not %v", what, told(x), before)
	}
}

// told is all that a table tells.
func told(x *Table) []Route {
	l := x.Valid()
	for dest := range 8 {
		l = append(l, Route{Dest: dest, Next: x.Offers(dest)})
	}
	return l
}

// goes holds a table to a route by a neighbour, as that one offered it, and to how many offer one.
func goes(t *testing.T, what string, x *Table, dest, next int, k api.Key, since int64, many int) {
	t.Helper()
	want := Route{Dest: dest, Key: k, Next: next, Valid: true, Since: since, Known: known(dest, next, k)}
	if r, ok := x.Get(dest); !ok || !alike(r, want) {
		t.Errorf("%s: %v, %v, not %v", what, r, ok, want)
	}
	if n, ok := x.Lookup(dest); !ok || n != next {
		t.Errorf("%s: Lookup(%d): %d, %v, not %d", what, dest, n, ok, next)
	}
	if n := x.Offers(dest); n != many {
		t.Errorf("%s: %d offers, not %d", what, n, many)
	}
}

// none holds a table to no route to a destination.
func none(t *testing.T, what string, x *Table, dest int) {
	t.Helper()
	if r, ok := x.Get(dest); ok || !alike(r, Route{}) {
		t.Errorf("%s: Get(%d): %v, %v", what, dest, r, ok)
	}
	if n, ok := x.Lookup(dest); ok || n != 0 {
		t.Errorf("%s: Lookup(%d): %d, %v", what, dest, n, ok)
	}
	if n := x.Offers(dest); n != 0 {
		t.Errorf("%s: %d offers for %d", what, n, dest)
	}
}

func dests(t *testing.T, what string, got []int, want ...int) {
	t.Helper()
	if !slices.Equal(got, want) {
		t.Errorf("%s: %v, not %v", what, got, want)
	}
}

func is(t *testing.T, what string, e, want api.Errno) {
	t.Helper()
	if e != want {
		t.Errorf("%s: %d, not %d", what, e, want)
	}
}
