package ladder

import (
	"fingerpost/api"
	"math"
	"slices"
	"testing"
)

// each goes over all rungs, widths and nodes.
func each(f func(rung, width, id int)) {
	for rung := range 16 {
		for _, width := range widths {
			for id := range width {
				f(rung, width, id)
			}
		}
	}
}

// P6.2
func TestShow(t *testing.T) {
	m := &maker{}
	for _, p := range places {
		each(func(rung, width, id int) {
			l, way, e := Show(p, rung, some(rung), width, id)
			leaf, beside := m.shown(p, rung, some(rung), width, id)
			if l != leaf || !slices.Equal(way, beside) || e != api.OK {
				t.Errorf("Show(%v, %d, .., %d, %d): %x, %x, %d", p, rung, width, id, l, way, e)
			}
		})
	}
}

// P6.2: of any leaf and way, not of those that are shown alone.
func TestRise(t *testing.T) {
	m := &maker{}
	for _, p := range places {
		each(func(rung, width, id int) {
			way := []api.Sum{some(1), some(2), some(3)}[:Levels(width)]
			want := m.risen(p, rung, 0, width, id, some(id+4), way)
			if got, e := Rise(p, rung, width, id, some(id+4), way); got != want || e != api.OK {
				t.Errorf("Rise(%v, %d, %d, %d, ..): %x, %d", p, rung, width, id, got, e)
			}
		})
	}
	// Of the width 1 the leaf is the next element itself, and nil is the empty list.
	for _, way := range [][]api.Sum{nil, {}} {
		if got, e := Rise(places[1], 4, 1, 0, some(1), way); got != some(1) || e != api.OK {
			t.Errorf("Rise of the width 1: %x, %d", got, e)
		}
	}
}

func showsNot(t *testing.T, rung, width, id int) {
	t.Helper()
	if l, way, e := Show(places[1], rung, some(1), width, id); l != (api.Sum{}) || len(way) != 0 || e != api.ErrArg {
		t.Errorf("Show(.., %d, .., %d, %d): %x, %x, %d", rung, width, id, l, way, e)
	}
	// By ways of all lengths: that a number is wrong comes first.
	for size := range 10 {
		if got, e := Rise(places[1], rung, width, id, some(1), make([]api.Sum, size)); got != (api.Sum{}) || e != api.ErrArg {
			t.Errorf("Rise(.., %d, %d, %d, ..) by %d: %x, %d", rung, width, id, size, got, e)
		}
	}
}

// P6.2, Errors
func TestShowAndRiseOfWrongNumbers(t *testing.T) {
	for _, rung := range noRungs {
		showsNot(t, rung, 4, 0)
		showsNot(t, rung, 1, 0)
		showsNot(t, rung, 3, 4)
	}
	for _, width := range noWidths {
		for _, id := range []int{0, 1, 2, -1, 8, math.MaxInt, math.MinInt} {
			showsNot(t, 4, width, id)
		}
	}
	for _, width := range widths {
		for _, id := range []int{width, width + 1, 2 * width, 16, 256, -1, -width, math.MaxInt, math.MinInt} {
			showsNot(t, 4, width, id)
			showsNot(t, 0, width, id)
			showsNot(t, 15, width, id)
		}
	}
}

// P6.2, Errors: a way is as long as the width has levels.
func TestRiseByWrongWays(t *testing.T) {
	each(func(rung, width, id int) {
		for size := range 20 {
			if size == Levels(width) {
				continue
			}
			if got, e := Rise(places[1], rung, width, id, some(1), make([]api.Sum, size)); got != (api.Sum{}) || e != api.ErrProof {
				t.Errorf("Rise(.., %d, %d, %d, ..) by %d: %x, %d", rung, width, id, size, got, e)
			}
		}
	})
}

// P6.4
func TestRiseOfWhatIsShown(t *testing.T) {
	for _, p := range places {
		each(func(rung, width, id int) {
			next, _ := Up(p, rung, some(rung), width)
			l, way, _ := Show(p, rung, some(rung), width, id)
			if got, e := Rise(p, rung, width, id, l, way); got != next || e != api.OK {
				t.Errorf("of %v, %d, %d, %d: %x, %d, not %x", p, rung, width, id, got, e, next)
			}
		})
	}
}

// leadsOff says that a leaf and a way don't lead to the next element.
func leadsOff(t *testing.T, rung, width, id int, l api.Sum, way []api.Sum) {
	t.Helper()
	next, _ := Up(places[1], rung, some(1), width)
	if got, e := Rise(places[1], rung, width, id, l, way); got == next || e != api.OK {
		t.Errorf("%x and %x lead the node %d of %d to %x, %d", l, way, id, width, got, e)
	}
}

// P6.5: with any bit turned, of the leaf or of the way, another sum comes out.
func TestTurnedBitsLeadOff(t *testing.T) {
	for _, width := range widths {
		for id := range width {
			l, way, _ := Show(places[1], 4, some(1), width, id)
			for bit := range 128 {
				turned := l
				turned[bit/8] ^= 1 << (bit % 8)
				leadsOff(t, 4, width, id, turned, way)
				for level := range way {
					other := slices.Clone(way)
					other[level][bit/8] ^= 1 << (bit % 8)
					leadsOff(t, 4, width, id, l, other)
				}
			}
		}
	}
}

// P6.5: what others show, of this rung or of another one, isn't what a node shows itself.
func TestOthersShowLeadsOff(t *testing.T) {
	p := places[1]
	for _, width := range widths {
		for id := range width {
			for other := range width {
				if other != id {
					l, way, _ := Show(p, 4, some(1), width, other)
					leadsOff(t, 4, width, id, l, way)
					own, _, _ := Show(p, 4, some(1), width, id)
					leadsOff(t, 4, width, id, own, way)
				}
			}
			for _, x := range []struct {
				p    Place
				rung int
				e    api.Sum
			}{
				{Place{2, 2, 3}, 4, some(1)}, {Place{1, 3, 3}, 4, some(1)}, {Place{1, 2, 4}, 4, some(1)},
				{p, 3, some(1)}, {p, 5, some(1)}, {p, 4, some(2)},
			} {
				l, way, _ := Show(x.p, x.rung, x.e, width, id)
				leadsOff(t, 4, width, id, l, way)
			}
		}
	}
}

// P6.5: neither the element itself, nor what stands in the tree elsewhere, nor a way out of order.
func TestPartsOfTheTreeLeadOff(t *testing.T) {
	m := &maker{}
	for _, width := range []int{2, 4, 8} {
		for id := range width {
			l, way, _ := Show(places[1], 4, some(1), width, id)
			next, _ := Up(places[1], 4, some(1), width)
			for _, other := range []api.Sum{some(1), next, way[0], m.part(places[1], 4, some(1), id/2*2, id/2*2+2), {}} {
				leadsOff(t, 4, width, id, other, way)
			}
			leadsOff(t, 4, width, id, l, make([]api.Sum, len(way)))
			if len(way) > 1 {
				slices.Reverse(way)
				leadsOff(t, 4, width, id, l, way)
			}
		}
	}
}

// P6.5: nobody comes down: from an element no leaf of the rung below is got by any of the chapter's sums.
func TestElementBelowIsNotShown(t *testing.T) {
	p := places[1]
	next, _ := Up(p, 4, some(1), 4)
	for id := range 4 {
		own, _, _ := Show(p, 4, some(1), 4, id)
		for rung := range 16 {
			above, way, _ := Show(p, rung, next, 4, id)
			if above == own {
				t.Errorf("the node %d's leaf comes from above", id)
			}
			leadsOff(t, 4, 4, id, above, way)
		}
	}
}

// R3: what is handed in is neither changed, nor its spare room, nor kept; what is handed out is new memory.
func TestWaysAreNewMemory(t *testing.T) {
	_, first, _ := Show(places[1], 4, some(1), 8, 3)
	_, second, _ := Show(places[1], 4, some(1), 8, 3)
	want := slices.Clone(first)
	clear(first[:cap(first)])
	if _, third, _ := Show(places[1], 4, some(1), 8, 3); !slices.Equal(second, want) || !slices.Equal(third, want) {
		t.Error("two ways share memory")
	}
	room := []api.Sum{some(1), some(2), some(3), some(4)}
	was := slices.Clone(room)
	Rise(places[1], 4, 4, 1, some(5), room[:2])
	Rise(places[1], 4, 4, 1, some(5), room[:3])
	if !slices.Equal(room, was) {
		t.Errorf("a way was turned: %x", room)
	}
}
