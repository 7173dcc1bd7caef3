package ladder

import (
	"fingerpost/api"
	"math"
	"slices"
	"testing"
)

// counting is the sum of the bytes 0 to 15.
var counting = api.Sum{0, 1, 2, 3, 4, 5, 6, 7, 8, 9, 10, 11, 12, 13, 14, 15}

// P6.1
func TestLevels(t *testing.T) {
	want := map[int]int{1: 0, 2: 1, 4: 2, 8: 3}
	for width := -300; width <= 300; width++ {
		levels, ok := want[width]
		if !ok {
			levels = -1
		}
		if got := Levels(width); got != levels {
			t.Errorf("Levels(%d): %d, not %d", width, got, levels)
		}
	}
	for _, width := range noWidths {
		if got := Levels(width); got != -1 {
			t.Errorf("Levels(%d): %d", width, got)
		}
	}
}

// P6.1: sums that another program made.
func TestKnownSums(t *testing.T) {
	p := Place{5, 0x01020304, 0x05060708}
	isSum(t, "a leaf", Leaf(p, 9, counting, 3), "124942ca9481f2921892167b2f902ae5")
	turned := counting
	slices.Reverse(turned[:])
	isSum(t, "a join", Join(p, 9, counting, turned), "259ad4270b9901517866498dfac86ecc")
	for at, want := range []string{
		"d56c576abe4b1b9ced33081068388501", "e04aa59b2855244b421b1fcb201e6357",
		"04058c6a68aa1099f3f5be325febda8d", "e90cada3e7868d9fc812b5d59cb97b94",
	} {
		got, e := Up(p, 9, counting, widths[at])
		if e != api.OK {
			t.Errorf("Up of the width %d: %d", widths[at], e)
		}
		isSum(t, "Up", got, want)
	}
	got, e := Climb(Place{5, 7, 6}, counting, 0, 16, 4)
	if e != api.OK {
		t.Errorf("Climb: %d", e)
	}
	isSum(t, "Climb", got, "042f2b18104a63f6a83fa60081b8e170")
}

// P6.1: of any numbers, each told by its lowest byte, or by four.
func TestLeafAndJoin(t *testing.T) {
	m := &maker{}
	for _, p := range places {
		for _, rung := range append([]int{0, 1, 9, 15}, noRungs...) {
			for _, id := range []int{0, 1, 7, 8, 255, 256, 263, -1, math.MaxInt, math.MinInt} {
				if got := Leaf(p, rung, some(id), id); got != m.leaf(p, rung, some(id), id) {
					t.Errorf("Leaf(%v, %d, .., %d): %x", p, rung, id, got)
				}
			}
			if got := Join(p, rung, some(1), some(2)); got != m.join(p, rung, some(1), some(2)) {
				t.Errorf("Join(%v, %d, ..): %x", p, rung, got)
			}
		}
	}
}

// P6.1: a leaf is bound to its place, its rung, its element, its node; a join to its place, its rung, which stands first.
func TestLeafAndJoinTell(t *testing.T) {
	p, a, b := Place{1, 2, 3}, some(1), some(2)
	got := map[api.Sum]int{}
	for at, s := range []api.Sum{
		Leaf(p, 4, a, 5), Leaf(Place{2, 2, 3}, 4, a, 5), Leaf(Place{1, 3, 3}, 4, a, 5), Leaf(Place{1, 2 + 1<<24, 3}, 4, a, 5),
		Leaf(Place{1, 2, 4}, 4, a, 5), Leaf(Place{1, 2, 3 + 1<<24}, 4, a, 5), Leaf(Place{1, 3, 2}, 4, a, 5),
		Leaf(p, 5, a, 5), Leaf(p, 4, b, 5), Leaf(p, 4, a, 6), Leaf(p, 5, a, 4),
		Join(p, 4, a, b), Join(Place{2, 2, 3}, 4, a, b), Join(Place{1, 3, 3}, 4, a, b), Join(Place{1, 2, 4}, 4, a, b),
		Join(p, 5, a, b), Join(p, 4, b, a), Join(p, 4, a, a), Join(p, 4, b, b),
	} {
		if other, ok := got[s]; ok {
			t.Errorf("%d and %d are one", other, at)
		}
		got[s] = at
	}
	if Leaf(Place{257, 2, 3}, 260, a, 261) != Leaf(p, 4, a, 5) || Join(Place{-255, 2, 3}, -252, a, b) != Join(p, 4, a, b) {
		t.Error("more than the lowest byte tells")
	}
}

// P6.1
func TestUp(t *testing.T) {
	m := &maker{}
	for _, p := range places {
		for rung := range 16 {
			for _, width := range widths {
				if got, e := Up(p, rung, some(rung), width); got != m.part(p, rung, some(rung), 0, width) || e != api.OK {
					t.Errorf("Up(%v, %d, .., %d): %x, %d", p, rung, width, got, e)
				}
			}
		}
	}
	// The chapter's example.
	if got, _ := Up(places[1], 4, some(1), 1); got != Leaf(places[1], 4, some(1), 0) {
		t.Errorf("Up of the width 1: %x", got)
	}
}

// P6.1, Errors
func TestUpOfWrongNumbers(t *testing.T) {
	for _, rung := range noRungs {
		for _, width := range append(widths, noWidths...) {
			if got, e := Up(places[1], rung, some(1), width); got != (api.Sum{}) || e != api.ErrArg {
				t.Errorf("Up(.., %d, .., %d): %x, %d", rung, width, got, e)
			}
		}
	}
	for _, width := range noWidths {
		for rung := range 16 {
			if got, e := Up(places[1], rung, some(1), width); got != (api.Sum{}) || e != api.ErrArg {
				t.Errorf("Up(.., %d, .., %d): %x, %d", rung, width, got, e)
			}
		}
	}
}

// P6.1: from each rung to each; from 0 to 16 too, and nowhere.
func TestClimb(t *testing.T) {
	m := &maker{}
	for _, p := range places {
		for _, width := range widths {
			for from := range 17 {
				want := some(from)
				for to := from; to <= 16; to++ {
					if got, e := Climb(p, some(from), from, to, width); got != want || e != api.OK {
						t.Errorf("Climb(%v, .., %d, %d, %d): %x, %d", p, from, to, width, got, e)
					}
					want = m.part(p, to, want, 0, width)
				}
			}
		}
	}
}

// P6.1: who knows an element knows all above it, and comes to the same ones by any stops.
func TestClimbByStops(t *testing.T) {
	p := places[1]
	all, _ := Climb(p, some(1), 0, 16, 8)
	for stop := range 17 {
		e, _ := Climb(p, some(1), 0, stop, 8)
		if got, f := Climb(p, e, stop, 16, 8); got != all || f != api.OK {
			t.Errorf("by the rung %d: %x, %d", stop, got, f)
		}
	}
}

// P6.1, Errors
func TestClimbOfWrongNumbers(t *testing.T) {
	for _, x := range []struct{ from, to, width int }{
		{-1, 0, 4}, {-1, -1, 4}, {-1, 16, 4}, {0, 17, 4}, {16, 17, 4}, {17, 17, 4}, {1, 0, 4}, {16, 0, 4}, {16, 15, 4}, {0, -1, 4},
		{math.MinInt, 0, 4}, {math.MinInt, math.MaxInt, 4}, {0, math.MaxInt, 4}, {math.MaxInt, math.MaxInt, 4},
		{math.MaxInt, 0, 4}, {math.MaxInt, math.MinInt, 4}, {0, math.MinInt, 4}, {math.MinInt, math.MinInt, 4}, {-3, 2, 3},
	} {
		if got, e := Climb(places[1], some(1), x.from, x.to, x.width); got != (api.Sum{}) || e != api.ErrArg {
			t.Errorf("Climb(.., %d, %d, %d): %x, %d", x.from, x.to, x.width, got, e)
		}
	}
	for _, width := range noWidths {
		for _, x := range [][2]int{{0, 0}, {0, 1}, {16, 16}, {0, 16}} {
			if got, e := Climb(places[1], some(1), x[0], x[1], width); got != (api.Sum{}) || e != api.ErrArg {
				t.Errorf("Climb(.., %d, %d, %d): %x, %d", x[0], x[1], width, got, e)
			}
		}
	}
}

// P6.3: what is told is what the texts of a tree, of a way, take.
func TestCosts(t *testing.T) {
	for _, width := range widths {
		m := &maker{}
		m.part(places[1], 4, some(1), 0, width)
		if got := UpCost(width); got != m.blocks {
			t.Errorf("UpCost(%d): %d, not %d", width, got, m.blocks)
		}
		for id := range width {
			l, way := m.shown(places[1], 4, some(1), width, id)
			m.blocks = 0
			m.risen(places[1], 4, 0, width, id, l, way)
			if got := RiseCost(width); got != m.blocks {
				t.Errorf("RiseCost(%d): %d, not %d", width, got, m.blocks)
			}
		}
	}
}

// P6.3: of widths that there aren't, too.
func TestCostsOfAnyWidth(t *testing.T) {
	for _, x := range []struct{ width, up, rise int }{
		{1, 1, 0}, {2, 3, 1}, {3, 5, 0}, {4, 7, 2}, {5, 9, 0}, {6, 11, 0}, {7, 13, 0}, {8, 15, 3}, {9, 15, 0}, {16, 15, 0}, {1 << 40, 15, 0},
		{math.MaxInt, 15, 0}, {math.MaxInt/2 + 1, 15, 0}, {0, 0, 0}, {-1, 0, 0}, {-8, 0, 0}, {math.MinInt, 0, 0}, {math.MinInt/2 - 1, 0, 0},
	} {
		if up, rise := UpCost(x.width), RiseCost(x.width); up != x.up || rise != x.rise {
			t.Errorf("of the width %d: %d, %d", x.width, up, rise)
		}
	}
}
