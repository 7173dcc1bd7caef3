package grove

import (
	"fingerpost/api"
	"math"
	"slices"
	"testing"
)

// P7.2: of any leaf and path, not of those of a tree alone.
func TestFold(t *testing.T) {
	l := row(7)
	for _, o := range owners {
		for size := range 7 {
			for i := range 1 << size {
				if got, e := Fold(o.dest, o.epoch, i, l[6], l[:size]); got != led(o, i, l[6], l[:size]) || e != api.OK {
					t.Errorf("Fold(%v, %d, ..) by %d: %x, %d", o, i, size, got, e)
				}
			}
		}
	}
	// Without a path the leaf is the root; nil is the empty list.
	for _, path := range [][]api.Sum{nil, {}} {
		if got, e := Fold(1, 2, 0, l[6], path); got != l[6] || e != api.OK {
			t.Errorf("Fold by no path: %x, %d", got, e)
		}
	}
}

// P7.2, Errors
func TestFoldOfWrongNumbers(t *testing.T) {
	for size := range 200 {
		places := []int{-1, -2, math.MinInt, math.MaxInt, 1 << min(size, 62), 1<<min(size, 61) + 1}
		if size > 6 {
			places = append(places, 0, 1, 63)
		}
		for _, i := range places {
			if got, e := Fold(1, 2, i, row(1)[0], row(size)); got != (api.Sum{}) || e != api.ErrArg {
				t.Errorf("Fold(.., %d, ..) by %d: %x, %d", i, size, got, e)
			}
		}
	}
}

// P7.2: Check is Fold's answer, held against a root, and the path's length against a height.
func TestCheck(t *testing.T) {
	l := row(8)
	for _, o := range owners {
		for size := range 7 {
			for i := range 1 << size {
				root := led(o, i, l[6], l[:size])
				for _, height := range []int{0, 1, 2, 3, 4, 5, 6, 7, -1, math.MaxInt, math.MinInt} {
					if got := Check(o.dest, o.epoch, height, root, i, l[6], l[:size]); got != (height == size) {
						t.Errorf("Check(%v, %d, .., %d, ..) by %d: %v", o, height, i, size, got)
					}
				}
				if Check(o.dest, o.epoch, size, l[7], i, l[6], l[:size]) || Check(o.dest, o.epoch, size, api.Sum{}, i, l[6], l[:size]) {
					t.Errorf("Check(%v, .., %d, ..) by %d: under another root", o, i, size)
				}
			}
		}
	}
	if !Check(1, 2, 0, l[0], 0, l[0], nil) || !Check(1, 2, 0, l[0], 0, l[0], []api.Sum{}) || !Check(1, 2, 0, api.Sum{}, 0, api.Sum{}, nil) {
		t.Error("a leaf isn't its own root")
	}
}

// P7.2: what Fold refuses isn't under the root zero, which it answers then.
func TestCheckOfWrongNumbers(t *testing.T) {
	for _, size := range []int{0, 1, 2, 6, 7, 8, 63, 64, 100} {
		for _, i := range []int{-1, math.MinInt, math.MaxInt, 1 << min(size, 62), 0, 1, 63} {
			if i >= 0 && size <= 6 && i < 1<<size {
				continue
			}
			if Check(1, 2, size, api.Sum{}, i, row(1)[0], row(size)) {
				t.Errorf("Check(.., %d, ..) by %d holds", i, size)
			}
		}
	}
}

// P7.3
func TestPathsLeadToTheRoot(t *testing.T) {
	for _, o := range owners {
		for height := range 7 {
			l := row(1 << height)
			g := grown(t, o, l)
			for i := range l {
				path, _ := g.Path(i)
				leaf, _ := g.Leaf(i)
				if got, e := Fold(o.dest, o.epoch, i, leaf, path); got != g.Root() || e != api.OK {
					t.Errorf("Fold of the leaf %d of %d of %v: %x, %d", i, len(l), o, got, e)
				}
				if !Check(o.dest, o.epoch, height, g.Root(), i, l[i], path) {
					t.Errorf("Check of the leaf %d of %d of %v fails", i, len(l), o)
				}
			}
		}
	}
}

// leadsOff says that a leaf and a path don't lead from a place to the root of the tree over so many.
func leadsOff(t *testing.T, g *Grove, o owner, i int, leaf api.Sum, path []api.Sum) {
	t.Helper()
	if got, e := Fold(o.dest, o.epoch, i, leaf, path); got == g.Root() && e == api.OK {
		t.Errorf("%x leads from %d to the root", leaf, i)
	}
	if Check(o.dest, o.epoch, len(path), g.Root(), i, leaf, path) {
		t.Errorf("%x is under the root at %d", leaf, i)
	}
}

// P7.4: with any bit turned, of the leaf or of the path, another sum comes out.
func TestTurnedBitsLeadOff(t *testing.T) {
	o := owners[1]
	for height := range 7 {
		g := grown(t, o, row(1<<height))
		for _, i := range []int{0, 1<<height - 1, 1 << height / 3} {
			leaf, _ := g.Leaf(i)
			path, _ := g.Path(i)
			for bit := range 128 {
				turned := leaf
				turned[bit/8] ^= 1 << (bit % 8)
				leadsOff(t, g, o, i, turned, path)
				for level := range path {
					other := slices.Clone(path)
					other[level][bit/8] ^= 1 << (bit % 8)
					leadsOff(t, g, o, i, leaf, other)
				}
			}
		}
	}
}

// P7.4: no leaf stands at another one's place, be it by its own path or by the other's; nor does what stands higher.
func TestOtherLeavesLeadOff(t *testing.T) {
	o := owners[1]
	l := row(16)
	g := grown(t, o, l)
	for i := range l {
		path, _ := g.Path(i)
		for j, leaf := range l {
			if i != j {
				other, _ := g.Path(j)
				leadsOff(t, g, o, i, leaf, path)
				leadsOff(t, g, o, i, leaf, other)
				leadsOff(t, g, o, i, l[i], other)
			}
		}
		leadsOff(t, g, o, i, g.Root(), path)
		leadsOff(t, g, o, i, path[0], path)
		slices.Reverse(path)
		leadsOff(t, g, o, i, l[i], path)
	}
}

// P7.4: levels, destinations and epochs have trees of their own.
func TestOtherTreesLeadOff(t *testing.T) {
	o := owners[1]
	l := row(8)
	g := grown(t, o, l)
	for _, other := range []owner{{o.dest + 1, o.epoch}, {o.dest, o.epoch + 1}, {o.dest, o.epoch + 1<<24}, {o.dest - 1, o.epoch}} {
		h := grown(t, other, l)
		if h.Root() == g.Root() {
			t.Errorf("%v and %v have one root", o, other)
		}
		for i := range l {
			path, _ := h.Path(i)
			leadsOff(t, g, o, i, l[i], path)
			own, _ := g.Path(i)
			leadsOff(t, h, other, i, l[i], own)
		}
	}
	// A leaf's and its neighbour's sum, taken as a leaf, and a path that is one shorter.
	for i := range l {
		path, _ := g.Path(i)
		leadsOff(t, g, o, i/2, top(o, l[i/2*2:i/2*2+2]), path[1:])
	}
}

// R3: what is handed in isn't changed, nor its spare room.
func TestFoldTurnsNothing(t *testing.T) {
	room := row(8)
	Fold(1, 2, 5, room[7], room[:3])
	Check(1, 2, 3, room[6], 5, room[7], room[:3])
	if !slices.Equal(room, row(8)) {
		t.Error("a path was turned")
	}
}
