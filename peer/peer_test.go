package peer

import (
	"fingerpost/api"
	"fingerpost/frame"
	"fingerpost/toll"
	"math"
	"slices"
	"testing"
)

// noNodes are no nodes, at the edges and far off; of some the lowest bits are one.
var noNodes = []int{-1, -2, -8, 8, 9, 15, 16, 255, 256, 1 << 32, math.MaxInt, math.MinInt}

// P18.1: each rule at its edges.
func TestRules(t *testing.T) {
	good := Rules{Dead: 2, Window: 4, Rates: toll.Rates{Frames: 9, Blocks: 99}}
	rules := func(change func(r *Rules)) Rules {
		r := good
		change(&r)
		return r
	}
	check := func(r Rules, ok bool) {
		t.Helper()
		if Right(r) != ok {
			t.Errorf("Right(%v): %v", r, !ok)
		}
		if ok {
			made(t, 0, 1, r)
		} else if x, e := New(0, 1, r); x != nil || e != api.ErrArg {
			t.Errorf("New of %v: %v, %d", r, x, e)
		}
	}
	for _, n := range []int{1, 2, 3, 1<<20 - 1, 1 << 20} {
		check(rules(func(r *Rules) { r.Dead = n }), true)
	}
	for _, n := range []int{0, -1, 1<<20 + 1, 1 << 32, math.MaxInt, math.MinInt} {
		check(rules(func(r *Rules) { r.Dead = n }), false)
	}
	for _, n := range []int{1, 2, 63, 64} {
		check(rules(func(r *Rules) { r.Window = n }), true)
	}
	for _, n := range []int{0, -1, 65, 1<<32 + 1, math.MaxInt, math.MinInt} {
		check(rules(func(r *Rules) { r.Window = n }), false)
	}
	check(rules(func(r *Rules) { r.Rates.Frames = 0 }), false)
	check(rules(func(r *Rules) { r.Rates.FramesTick = -1 }), false)
	check(rules(func(r *Rules) { r.Rates.Blocks = 0 }), false)
	check(rules(func(r *Rules) { r.Rates.BlocksTick = api.MaxTokens + 1 }), false)
	check(rules(func(r *Rules) {
		r.Rates = toll.Rates{Frames: 1 << 30, FramesTick: 1 << 30, Blocks: 1 << 30, BlocksTick: 1 << 30}
	}), true)
	check(Rules{}, false)
}

// P18.1: of any node, in any boot but 0; nothing is known yet.
func TestNew(t *testing.T) {
	for self := range 8 {
		for _, boot := range []uint64{1, 2, math.MaxUint64} {
			x := made(t, self, boot, wide())
			tells(t, "new", x, 0)
			if len(x.Ids()) != 0 || x.Now() != 0 {
				t.Errorf("new: %v, %d", x.Ids(), x.Now())
			}
		}
	}
	for _, self := range noNodes {
		if x, e := New(self, 1, wide()); x != nil || e != api.ErrArg {
			t.Errorf("New(%d): %v, %d", self, x, e)
		}
	}
	if x, e := New(0, 0, wide()); x != nil || e != api.ErrArg {
		t.Errorf("the boot 0: %v, %d", x, e)
	}
}

// P18.1, P18.3: each node but self is a neighbour once.
func TestAdd(t *testing.T) {
	for self := range 8 {
		x := made(t, self, 1, wide())
		var ids []int
		for id := 7; id >= 0; id-- {
			if id == self {
				is(t, "self", x.Add(id, api.Digest{}), api.ErrArg)
				continue
			}
			if x.Toll(id) != nil {
				t.Errorf("a toll of %d ahead of Add", id)
			}
			is(t, "Add", x.Add(id, keyOf(self, id)), api.OK)
			is(t, "twice", x.Add(id, keyOf(self, id)), api.ErrTwice)
			is(t, "twice, with another key", x.Add(id, api.Digest{7}), api.ErrTwice)
			ids = append([]int{id}, ids...)
			if got := x.Ids(); !slices.Equal(got, ids) {
				t.Errorf("Ids: %v, not %v", got, ids)
			}
			left(t, "Add", x, id, 1000, 100000)
			admits(t, "by the first key", x, sealed(t, keyOf(self, id), id, self, 1, 1, nil))
		}
		for _, id := range noNodes {
			is(t, "no node", x.Add(id, api.Digest{}), api.ErrArg)
			if x.Toll(id) != nil || x.IsLive(id) {
				t.Errorf("%d is a neighbour", id)
			}
		}
		if x.Toll(self) != nil || !slices.Equal(x.Ids(), ids) {
			t.Errorf("self is a neighbour: %v", x.Ids())
		}
	}
}

// P18.1: Add is refused with nothing changed: neither key nor window, toll nor life.
func TestAddTwice(t *testing.T) {
	x := with(t, 0, 1, wide(), 1)
	b := sealed(t, keyOf(0, 1), 1, 0, 1, 1, nil)
	admits(t, "first", x, b)
	hello(t, "first", x, 1, 1, true)
	frames, blocks := x.Toll(1).Left()
	is(t, "twice", x.Add(1, api.Digest{}), api.ErrTwice)
	left(t, "twice", x, 1, frames, blocks)
	tells(t, "twice", x, 2, 1)
	refuses(t, "by another key", x, sealed(t, api.Digest{}, 1, 0, 1, 2, nil), api.ErrMac)
	refuses(t, "once more", x, b, api.ErrReplay)
}

// P18.3, R3: a toll is the neighbour's own, each neighbour's another one.
func TestToll(t *testing.T) {
	r := wide()
	r.Rates = toll.Rates{Frames: 2, FramesTick: 1, Blocks: 10, BlocksTick: 3}
	x := with(t, 3, 1, r, 1, 5)
	if x.Toll(1) != x.Toll(1) || x.Toll(1) == x.Toll(5) {
		t.Error("not the neighbours' own")
	}
	is(t, "Hold", x.Toll(1).Hold(8), api.OK)
	left(t, "held", x, 1, 2, 2)
	left(t, "another one's", x, 5, 2, 10)
	refuses(t, "held blocks pay nothing", x, sealed(t, keyOf(1, 3), 1, 3, 1, 1, nil), api.ErrToll)
	is(t, "Settle", x.Toll(1).Settle(2), api.OK)
	admits(t, "what came back pays", x, sealed(t, keyOf(1, 3), 1, 3, 1, 1, nil))
	left(t, "paid", x, 1, 1, 4)
}

// R3: lists are new memory.
func TestListsAreNewMemory(t *testing.T) {
	x := with(t, 0, 1, wide(), 1, 2, 3)
	for id := 1; id < 4; id++ {
		admits(t, "one", x, sealed(t, keyOf(0, id), id, 0, 1, 1, nil))
		hello(t, "one", x, id, 1, true)
	}
	for _, l := range [][]int{x.Ids(), x.Live()} {
		l = l[:cap(l)]
		for at := range l {
			l[at] = 6
		}
	}
	if !slices.Equal(x.Ids(), []int{1, 2, 3}) {
		t.Errorf("Ids: %v", x.Ids())
	}
	tells(t, "live", x, 14, 1, 2, 3)
	ticks(t, "1", x)
	ticks(t, "2", x)
	gone := x.Tick()
	if !slices.Equal(gone, []int{1, 2, 3}) {
		t.Errorf("gone: %v", gone)
	}
	gone[0] = 6
	tells(t, "gone", x, 0)
}

// R1, R2: ErrNil is ahead of all else.
func TestNilTable(t *testing.T) {
	var x *Table
	for _, id := range append(noNodes, 0, 1, 7) {
		is(t, "Add", x.Add(id, api.Digest{}), api.ErrNil)
		if b, e := x.Seal(id, id, make([]byte, 5000)); len(b) != 0 || e != api.ErrNil {
			t.Errorf("Seal: %x, %d", b, e)
		}
		if up, e := x.Hello(id, frame.Hello{Heard: 255}); up || e != api.ErrNil {
			t.Errorf("Hello: %v, %d", up, e)
		}
		if x.Toll(id) != nil || x.IsLive(id) {
			t.Errorf("of nothing: %v, %v", x.Toll(id), x.IsLive(id))
		}
	}
	refuses(t, "nothing", x, nil, api.ErrNil)
	refuses(t, "a frame", x, sealed(t, api.Digest{}, 1, 0, 1, 1, nil), api.ErrNil)
	ticks(t, "nil", x)
	tells(t, "nil", x, 0)
	if len(x.Ids()) != 0 || x.Now() != 0 {
		t.Errorf("nil: %v, %d", x.Ids(), x.Now())
	}
}

// R1: a table that nobody made panics neither.
func TestUnmadeTable(t *testing.T) {
	x := &Table{}
	for id := -1; id < 9; id++ {
		x.Add(id, api.Digest{})
		x.Seal(id, frame.IsHello, nil)
		x.Admit(sealed(t, api.Digest{}, 1, 0, 1, 1, nil))
		x.Hello(id, frame.Hello{Heard: 255})
		x.Tick()
		x.Toll(id)
		x.IsLive(id)
	}
	x.Heard()
	x.Live()
	x.Ids()
	x.Now()
}
