package config

import (
	"fingerpost/peer"
	"fingerpost/rib"
	"fingerpost/settle"
	"fingerpost/spring"
	"math"
	"testing"
)

// edges are a row's numbers that may just be, or just not, and those that are far off.
func edges(x row) []int {
	return []int{
		x.least, x.least + 1, x.usual, x.greatest - 1, x.greatest,
		x.least - 1, -1, x.greatest + 1, 1<<31 - 1, 1 << 31, 1<<32 + x.usual, math.MaxInt, math.MinInt, math.MinInt + x.usual,
	}
}

// P23.1
func TestDefault(t *testing.T) {
	if r := Default(); r != usual() {
		t.Errorf("%v", r)
	}
	for _, x := range table() {
		if r := with(x, x.usual); r != usual() {
			t.Errorf("%s: %v", x.name, r)
		}
	}
	checks(t, Default(), "")
}

// P23.1: each number at its edges.
func TestCheck(t *testing.T) {
	for _, x := range table() {
		for _, n := range edges(x) {
			want := x.name
			if x.may(n) {
				want = ""
			}
			checks(t, with(x, n), want)
		}
	}
}

// P23.1: a width is a power of two.
func TestWidth(t *testing.T) {
	width := table()[0]
	for n := -20; n <= 70; n++ {
		want := "width"
		if n == 1 || n == 2 || n == 4 || n == 8 {
			want = ""
		}
		checks(t, with(width, n), want)
	}
}

// P23.1: no other number must be a power of two.
func TestNoPowers(t *testing.T) {
	for _, x := range table()[1:] {
		for n := x.least; n <= min(x.greatest, x.least+100); n++ {
			checks(t, with(x, n), "")
		}
	}
}

// P23.1: of several numbers that may not be the first one is told.
func TestCheckTellsTheFirst(t *testing.T) {
	checks(t, Rules{}, "width")
	all := table()
	for first := range all {
		for _, second := range all[first+1:] {
			r := with(all[first], all[first].greatest+1)
			second.set(&r, second.least-1)
			checks(t, r, all[first].name)
		}
		r := usual()
		for _, x := range all[first:] {
			x.set(&r, math.MinInt)
		}
		checks(t, r, all[first].name)
	}
}

// P23.1: all numbers may be the least, or the greatest, at once.
func TestCheckAllEnds(t *testing.T) {
	var least, greatest Rules
	for _, x := range table() {
		x.set(&least, x.least)
		x.set(&greatest, x.greatest)
	}
	checks(t, least, "")
	checks(t, greatest, "")
}

// P23.1: whatever may be here may be in the layers below.
func TestLayersTakeThem(t *testing.T) {
	for _, x := range table() {
		for _, n := range edges(x) {
			if r := with(x, n); x.may(n) && !(spring.Right(r.Spring) && peer.Right(r.Peer) && rib.Right(r.Rib) && settle.Right(r.Settle)) {
				t.Errorf("%s, %d: %v", x.name, n, r)
			}
		}
	}
}
