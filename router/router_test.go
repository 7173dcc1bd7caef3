package router

import (
	"fingerpost/api"
	"fingerpost/count"
	"fingerpost/diary"
	"fingerpost/ots"
	"fingerpost/slate"
	"fingerpost/toll"
	"fingerpost/vow"
	"math"
	"reflect"
	"slices"
	"testing"
)

// P25.1
func TestRight(t *testing.T) {
	const million = 1 << 20
	for _, x := range []struct {
		what string
		turn func(r *Rules, n int)
		yes  []int
		no   []int
	}{
		{"width", func(r *Rules, n int) { r.Spring.Width = n }, []int{1, 2, 4, 8}, []int{0, 3, 5, 16, -1}},
		{"steps", func(r *Rules, n int) { r.Spring.Steps = n }, []int{1, 2, 14, 15}, []int{0, 16, 17, -1}},
		{"height", func(r *Rules, n int) { r.Spring.Height = n }, []int{0, 6}, []int{-1, 7}},
		{"dead", func(r *Rules, n int) { r.Peer.Dead = n }, []int{1, million}, []int{0, million + 1, -1}},
		{"window", func(r *Rules, n int) { r.Peer.Window = n }, []int{1, 64}, []int{0, 65}},
		{"frames", func(r *Rules, n int) { r.Peer.Rates.Frames = n }, []int{1, 1 << 30}, []int{0, 1<<30 + 1}},
		{"blocks-tick", func(r *Rules, n int) { r.Peer.Rates.BlocksTick = n }, []int{0, 1 << 30}, []int{-1, 1<<30 + 1}},
		{"hold", func(r *Rules, n int) { r.Rib.Hold = n }, []int{0, million}, []int{-1, million + 1}},
		{"life", func(r *Rules, n int) { r.Rib.Life = n }, []int{1, million}, []int{0, million + 1}},
		{"period", func(r *Rules, n int) { r.Settle.Period = n }, []int{1, million}, []int{0, million + 1}},
		{"settle", func(r *Rules, n int) { r.Settle.Settle = n }, []int{0, million}, []int{-1, million + 1}},
		{"most", func(r *Rules, n int) { r.Most = n }, []int{64, 65, 4096}, []int{63, 0, 4097, -64}},
		{"rotate", func(r *Rules, n int) { r.Rotate = n }, []int{1, million}, []int{0, million + 1, -1}},
	} {
		for _, n := range append(x.no, math.MinInt, math.MaxInt) {
			r := wide()
			if x.turn(&r, n); Right(r) {
				t.Errorf("%s %d is right", x.what, n)
			}
		}
		for _, n := range x.yes {
			r := wide()
			if x.turn(&r, n); !Right(r) {
				t.Errorf("%s %d isn't right", x.what, n)
			}
		}
	}
	if Right(Rules{}) || !Right(wide()) {
		t.Error("no rules, or wide ones")
	}
}

// P25.1
func TestRightSetup(t *testing.T) {
	good := func() Setup { return setupOf(wide(), 2, 0, 1, 3) }
	for what, turn := range map[string]func(s *Setup){
		"all":          func(s *Setup) {},
		"no links":     func(s *Setup) { s.Links = nil },
		"empty links":  func(s *Setup) { s.Links = []Link{} },
		"one link":     func(s *Setup) { s.Links = s.Links[2:] },
		"one key":      func(s *Setup) { s.Links[0].Key, s.Links[1].Key = api.Digest{}, api.Digest{} },
		"another self": func(s *Setup) { s.Self, s.Links = 0, s.Links[1:] },
		"last self":    func(s *Setup) { s.Self, s.Links = 3, s.Links[:2] },
		"zero seed":    func(s *Setup) { s.Seed = api.Digest{} },
		"zero keys":    func(s *Setup) { s.Keys = make([]api.Sum, 4) },
	} {
		s := good()
		if turn(&s); !RightSetup(s) {
			t.Errorf("%s: isn't right", what)
		}
	}
	for what, turn := range map[string]func(s *Setup){
		"rules":         func(s *Setup) { s.Rules.Most = 63 },
		"steps":         func(s *Setup) { s.Rules.Spring.Steps = 16 },
		"self below":    func(s *Setup) { s.Self = -1 },
		"self above":    func(s *Setup) { s.Self = 4 },
		"self far":      func(s *Setup) { s.Self = math.MaxInt },
		"no keys":       func(s *Setup) { s.Keys = nil },
		"a key less":    func(s *Setup) { s.Keys = s.Keys[:3] },
		"a key more":    func(s *Setup) { s.Keys = append(s.Keys, api.Sum{}) },
		"itself":        func(s *Setup) { s.Links[2].Id = 2 },
		"twice":         func(s *Setup) { s.Links[1].Id = 0 },
		"falling":       func(s *Setup) { s.Links[0].Id, s.Links[1].Id = 1, 0 },
		"beyond":        func(s *Setup) { s.Links[2].Id = 4 },
		"far beyond":    func(s *Setup) { s.Links[2].Id = math.MaxInt },
		"below":         func(s *Setup) { s.Links[0].Id = -1 },
		"far below":     func(s *Setup) { s.Links[0].Id = math.MinInt },
		"zero":          func(s *Setup) { *s = Setup{} },
		"another width": func(s *Setup) { s.Rules.Spring.Width = 8 },
	} {
		s := good()
		if turn(&s); RightSetup(s) {
			t.Errorf("%s: is right", what)
		}
		if r, e := New(s, device(t, 100)); r != nil || e != api.ErrArg {
			t.Errorf("%s: New: %v, %d", what, r, e)
		}
		// That the setup may not be comes ahead of the device.
		if r, e := New(s, nil); r != nil || e != api.ErrArg {
			t.Errorf("%s: New without a device: %v, %d", what, r, e)
		}
	}
}

// P25.1
func TestPublic(t *testing.T) {
	for _, id := range []int{0, 1, 7, 8, 300, -1, math.MinInt, math.MaxInt} {
		if got := Public(seedOf(3), id); got != ots.Public(seedOf(3), ots.Name{Dest: id, Index: 0}) {
			t.Errorf("Public of %d: %x", id, got)
		}
	}
	if Public(seedOf(3), 1) == Public(seedOf(3), 2) || Public(seedOf(3), 1) == Public(seedOf(2), 1) {
		t.Error("two nodes have one key")
	}
}

// P25.1, P25.3: nothing is sent yet, and there are no routes.
func TestNew(t *testing.T) {
	s := play(t, wide(), 1, 2)
	if got, want := telled(s.r), (telling{Boot: 1}); !reflect.DeepEqual(got, want) {
		t.Errorf("New tells %v, not %v", got, want)
	}
	if l := s.r.Counters(); !slices.Equal(l, make([]int64, count.Many)) {
		t.Errorf("Counters: %v", l)
	}
	s.again()
	if got, want := telled(s.r), (telling{Boot: 2}); !reflect.DeepEqual(got, want) {
		t.Errorf("New tells %v, not %v", got, want)
	}
}

// P25.1: a setup is looked at once, and no more of it than that is needed.
func TestNewKeepsNothing(t *testing.T) {
	s := setupOf(wide(), 0, 1, 2)
	x := &stage{T: t, setup: s, device: device(t, 1000), boots: [api.MaxNodes]uint64{1, 1, 1, 1}}
	given := setupOf(wide(), 0, 1, 2)
	x.r = made(t, given, x.device)
	if !reflect.DeepEqual(given, s) {
		t.Error("New turned the setup")
	}
	clear(given.Keys)
	clear(given.Links)
	x.meet(1, 2)
	x.know(1, 1, 1, 2, 3)
}

// P25.1: the vow's errors are New's.
func TestNewOfDevices(t *testing.T) {
	s := setupOf(wide(), 0, 1)
	for what, x := range map[string]struct {
		device func() *slate.Slate
		want   api.Errno
	}{
		"none":      {func() *slate.Slate { return nil }, api.ErrNil},
		"one":       {func() *slate.Slate { return device(t, 1) }, api.ErrArg},
		"too small": {func() *slate.Slate { return device(t, 2) }, api.ErrFull},
		"small":     {func() *slate.Slate { return device(t, 4) }, api.OK},
		"powerless": {func() *slate.Slate {
			d := device(t, 100)
			d.Fuse(0)
			d.Flush()
			return d
		}, api.ErrDown},
		"fused": {func() *slate.Slate {
			d := device(t, 100)
			d.Fuse(1)
			return d
		}, api.ErrDown},
		"strange": {func() *slate.Slate {
			d := device(t, 100)
			diary.Start(d, 1, [][]byte{{9}})
			return d
		}, api.ErrBroken},
	} {
		r, e := New(s, x.device())
		if e != x.want || (r != nil) != (e == api.OK) {
			t.Errorf("%s: %v, %d, not %d", what, r, e, x.want)
		}
	}
}

// P25.1: anchors are taken by their trusts, in order, from the epoch 0 on, by the setup's keys.
func TestNewOfAnchors(t *testing.T) {
	r := wide()
	anchored := func(l ...[2]int) *slate.Slate {
		d := device(t, 1000)
		v, _ := vow.Open(d)
		for _, x := range l {
			is(t, "Anchor", v.Anchor(recordOf(r, x[0], uint32(x[1]))), api.OK)
		}
		return d
	}
	x := made(t, setupOf(r, 0, 1), anchored([2]int{0, 0}, [2]int{2, 0}, [2]int{2, 1}, [2]int{0, 1}, [2]int{2, 2}))
	for dest, want := range []int{2, 0, 3, 0, 0, 0, 0, 0} {
		if n := x.Roots(dest); n != want {
			t.Errorf("Roots(%d): %d, not %d", dest, n, want)
		}
	}
	for what, d := range map[string]*slate.Slate{
		"a gap ahead":        anchored([2]int{1, 1}),
		"a gap ahead of own": anchored([2]int{0, 3}),
	} {
		if x, e := New(setupOf(r, 0, 1), d); x != nil || e != api.ErrBroken {
			t.Errorf("%s: %v, %d", what, x, e)
		}
	}
	strange := setupOf(r, 0, 1)
	strange.Keys[2] = api.Sum{1}
	if x, e := New(strange, anchored([2]int{1, 0}, [2]int{2, 0})); x != nil || e != api.ErrBroken {
		t.Errorf("another key: %v, %d", x, e)
	}
	if x, e := New(strange, anchored([2]int{1, 0}, [2]int{3, 0})); x == nil || e != api.OK {
		t.Errorf("another key of whom there is no anchor: %v, %d", x, e)
	}
}

// P25.3, R1: of no router nothing.
func TestNil(t *testing.T) {
	var r *Router
	if got, want := telled(r), (telling{Dead: api.ErrNil}); !reflect.DeepEqual(got, want) {
		t.Errorf("no router tells %v", got)
	}
	if l := r.Counters(); !slices.Equal(l, make([]int64, count.Many)) {
		t.Errorf("Counters: %v", l)
	}
	if outs, e := r.Tick(); outs != nil || e != api.ErrNil {
		t.Errorf("Tick: %v, %d", outs, e)
	}
	is(t, "Take", r.Take(nil), api.ErrNil)
	is(t, "Take", r.Take([]byte{1, 0, 1}), api.ErrNil)
}

// R1: a router that nobody made panics neither.
func TestUnmade(t *testing.T) {
	r := &Router{}
	telled(r)
	r.Take(nil)
	r.Take(play(t, wide(), 1).frame(helloOf(1, 1)))
	r.Tick()
	r.Tick()
	telled(r)
	r.Counters()
}

// P25.3: of no destination nothing; what is handed out is nobody else's.
func TestTellsOfNoDestination(t *testing.T) {
	s := play(t, wide(), 1)
	s.meet(1)
	s.know(1, 1, 1)
	s.offer(1, 1, key(0, 0, 0))
	for _, dest := range []int{-1, 4, 7, 8, 9, math.MinInt, math.MaxInt} {
		if n := s.r.Roots(dest); n != 0 {
			t.Errorf("Roots(%d): %d", dest, n)
		}
		if k, ok := s.r.Floor(dest); ok || k != (api.Key{}) {
			t.Errorf("Floor(%d): %v", dest, k)
		}
		if x, ok := s.r.Route(dest); ok || x.Valid {
			t.Errorf("Route(%d): %v", dest, x)
		}
	}
	was := telled(s.r)
	x, _ := s.r.Route(1)
	clear(x.Known.Path)
	clear(s.r.Fib())
	clear(s.r.Live())
	clear(s.r.Counters())
	if got := telled(s.r); !reflect.DeepEqual(got, was) || s.r.Counters()[count.Frames] == 0 {
		t.Errorf("what was handed out is the router's own: %v, not %v", got, was)
	}
}

// spent holds a neighbour's toll to how many blocks fewer are left than by the rates.
func (s *stage) spent(what string, id, blocks int) {
	s.Helper()
	_, left := s.r.peers.Toll(id).Left()
	if got := s.setup.Rules.Peer.Rates.Blocks - left; got != blocks {
		s.Fatalf("%s: %d blocks of %d's toll are gone, not %d", what, got, id, blocks)
	}
}

// poor are rates of so many blocks, none of which come back.
func poor(blocks int) toll.Rates {
	return toll.Rates{Frames: 1000, Blocks: blocks}
}
