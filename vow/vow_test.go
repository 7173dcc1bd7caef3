package vow

import (
	"fingerpost/api"
	"fingerpost/diary"
	"fingerpost/renew"
	"fingerpost/slate"
	"math"
	"math/rand"
	"testing"
)

// P16.1, P16.2: the chapter's example.
func TestExample(t *testing.T) {
	s := device(t, 100)
	v, m := opens(t, s), none()
	m.boot = 1
	m.is(t, "an empty device", v)
	errs(t, "Spend", v.Spend(3), api.OK)
	m.index = 4
	m.is(t, "spent", v)
	errs(t, "Spend", v.Spend(3), api.ErrSpent)
	m.boot = 2
	m.is(t, "opened again", opens(t, s))
}

// P16.2, Errors
func TestReserve(t *testing.T) {
	v, m := opens(t, device(t, 400)), none()
	m.boot = 1
	for _, x := range []struct {
		k    api.Key
		want api.Errno
		now  *api.Key
	}{
		{api.Key{Epoch: 65537}, api.ErrArg, nil},
		{api.Key{Epoch: math.MaxUint32}, api.ErrArg, nil},
		{api.Key{Seq: 64}, api.ErrArg, nil},
		{api.Key{Seq: math.MaxUint32}, api.ErrArg, nil},
		{api.Key{}, api.OK, &api.Key{}},
		{api.Key{Seq: 2, Metric: 9}, api.OK, &api.Key{Seq: 2}},
		{api.Key{Seq: 2}, api.OK, &api.Key{Seq: 2}},
		{api.Key{Seq: 2, Metric: -1}, api.OK, &api.Key{Seq: 2}},
		{api.Key{Seq: 1}, api.OK, &api.Key{Seq: 2}},
		{api.Key{Seq: 3, Metric: 16}, api.OK, &api.Key{Seq: 3}},
		{api.Key{Seq: 4, Metric: math.MinInt}, api.OK, &api.Key{Seq: 4}},
		{api.Key{Seq: 64}, api.ErrArg, &api.Key{Seq: 4}},
		{api.Key{Epoch: 1, Metric: math.MaxInt}, api.OK, &api.Key{Epoch: 1}},
		{api.Key{Seq: 63}, api.OK, &api.Key{Epoch: 1}},
		{api.Key{Epoch: 65536, Seq: 63}, api.OK, &api.Key{Epoch: 65536, Seq: 63}},
		{api.Key{Epoch: 65537}, api.ErrArg, &api.Key{Epoch: 65536, Seq: 63}},
	} {
		errs(t, "Reserve", v.Reserve(x.k), x.want)
		m.reserve = x.now
		m.is(t, "reserved", v)
	}
}

// P16.2, Errors
func TestSpend(t *testing.T) {
	v, m := opens(t, device(t, 400)), none()
	m.boot = 1
	for _, x := range []struct {
		index uint32
		want  api.Errno
		now   uint32
	}{
		{65538, api.ErrArg, 0},
		{math.MaxUint32, api.ErrArg, 0},
		{0, api.OK, 1},
		{0, api.ErrSpent, 1},
		{1, api.OK, 2},
		{0, api.ErrSpent, 2},
		{5, api.OK, 6},
		{4, api.ErrSpent, 6},
		{65536, api.OK, 65537},
		{65536, api.ErrSpent, 65537},
		{65537, api.OK, 65538},
		{65537, api.ErrSpent, 65538},
		{65538, api.ErrArg, 65538},
	} {
		errs(t, "Spend", v.Spend(x.index), x.want)
		m.index = x.now
		m.is(t, "spent", v)
	}
}

// P16.2, Errors: a floor that is better comes ahead of a key that isn't right.
func TestRaise(t *testing.T) {
	v, m := opens(t, device(t, 400)), none()
	m.boot = 1
	for _, x := range []struct {
		dest int
		k    api.Key
		want api.Errno
	}{
		{1, api.Key{Seq: 5, Metric: 16}, api.ErrArg},
		{1, api.Key{Seq: 5, Metric: -1}, api.ErrArg},
		{-1, api.Key{}, api.ErrArg},
		{8, api.Key{}, api.ErrArg},
		{math.MinInt, api.Key{}, api.ErrArg},
		{257, api.Key{Metric: 16}, api.ErrArg},
		{1, api.Key{Seq: 5, Metric: 2}, api.OK},
		{1, api.Key{Seq: 5, Metric: 2}, api.OK},
		{1, api.Key{Seq: 5, Metric: 3}, api.ErrOld},
		{1, api.Key{Seq: 5, Metric: 16}, api.ErrOld},
		{1, api.Key{Seq: 5, Metric: math.MaxInt}, api.ErrOld},
		{1, api.Key{Seq: 5, Metric: -1}, api.ErrArg},
		{1, api.Key{Seq: 4}, api.ErrOld},
		{1, api.Key{Seq: 4, Metric: -1}, api.ErrOld},
		{1, api.Key{Seq: 64}, api.ErrArg},
		{1, api.Key{Epoch: 65537}, api.ErrArg},
		{1, api.Key{Seq: 5, Metric: 1}, api.OK},
		{0, api.Key{Seq: 63, Metric: 15}, api.OK},
		{0, api.Key{Epoch: 65536, Seq: 63}, api.OK},
		{0, api.Key{Epoch: 65536, Seq: 62}, api.ErrOld},
		{7, api.Key{}, api.OK},
	} {
		errs(t, "Raise", v.Raise(x.dest, x.k), x.want)
		if x.want == api.OK {
			m.floors[x.dest] = x.k
		}
		m.is(t, "raised", v)
	}
}

// P16.2, Errors: the first anchor is of any epoch, each further one of the next.
func TestAnchor(t *testing.T) {
	v, m := opens(t, device(t, 2000)), none()
	m.boot = 1
	for _, x := range []struct {
		dest  int
		epoch uint32
		want  api.Errno
	}{
		{-1, 0, api.ErrArg},
		{8, 0, api.ErrArg},
		{256, 0, api.ErrArg},
		{math.MaxInt, 0, api.ErrArg},
		{2, 65537, api.ErrArg},
		{2, math.MaxUint32, api.ErrArg},
		{2, 7, api.OK},
		{2, 7, api.ErrState},
		{2, 6, api.ErrState},
		{2, 9, api.ErrState},
		{2, 65537, api.ErrArg},
		{2, 8, api.OK},
		{3, 9, api.OK},
		{2, 9, api.OK},
		{0, 65535, api.OK},
		{0, 65536, api.OK},
		{0, 65536, api.ErrState},
		{0, 65537, api.ErrArg},
		{0, 0, api.ErrState},
		{7, 0, api.OK},
		{7, 1, api.OK},
	} {
		a := some(x.dest, x.epoch)
		errs(t, "Anchor", v.Anchor(a), x.want)
		if x.want == api.OK {
			m.anchors[x.dest] = append(m.anchors[x.dest], a)
		}
		m.is(t, "anchored", v)
	}
}

// room is how many sectors records take, with the marker.
func room(l [][]byte) int {
	n := 1
	for _, p := range l {
		n += (len(p)-1)/50 + 1
	}
	return n
}

// keeps holds a device to what stands on it behind a call by which p was kept: the records and p, or a new generation with the snapshot.
func keeps(t *testing.T, s *slate.Slate, was [][]byte, next uint32, p []byte, m *model) api.Errno {
	t.Helper()
	now := append(append([][]byte(nil), was...), p)
	switch half := s.Sectors() / 2; {
	case room(now) <= half:
		tells(t, "kept", s, now, next)
	case room(m.snapshot()) <= half:
		tells(t, "anew", s, m.snapshot(), next+1)
	default:
		return api.ErrFull
	}
	if s.Loose() != 0 {
		t.Fatal("what is kept doesn't last")
	}
	return api.OK
}

// P16.1, P16.2: any calls, on devices that are filled sooner or later; what turns nothing does no step.
func TestAnyCalls(t *testing.T) {
	anew, full := 0, 0
	for seed := range int64(200) {
		r := rand.New(rand.NewSource(seed))
		s, m := device(t, one(r, 4, 6, 9, 20, 60, 120, 300, 2000)), none()
		for range 4 {
			m.boot++
			v := opens(t, s)
			m.is(t, "opened", v)
			for range 40 {
				was, next, _ := diary.Load(s)
				steps, a := s.Steps(), m.asks(r)
				p, want := m.turn(a)
				got := a.of(v)
				if p == nil && s.Steps() != steps {
					t.Fatalf("%v: nothing is kept by %d steps", a, s.Steps()-steps)
				}
				if p != nil {
					want = keeps(t, s, was, next, p, m)
				}
				errs(t, "a call", got, want)
				m.is(t, "a call", v)
				if _, now, _ := diary.Load(s); now != next {
					anew++
				}
				if got == api.ErrFull {
					full++
					break
				}
			}
			if dead := v.alive(); dead != api.OK {
				if dead != api.ErrFull {
					t.Fatalf("dead by %d", dead)
				}
				break
			}
		}
	}
	if anew < 150 || full < 50 {
		t.Errorf("%d generations, %d devices too small", anew, full)
	}
}

// P16.2: when a device is full, the generation that it tells is started, one of an other try beside it, too.
func TestNextGeneration(t *testing.T) {
	s := device(t, 8)
	v := opens(t, s)
	errs(t, "Spend", v.Spend(0), api.OK)
	errs(t, "Spend", v.Spend(1), api.OK)
	tells(t, "filled", s, [][]byte{laid(1, 1), laid(3, 1), laid(3, 2)}, 2)
	// What stands in the other half now is of a generation that nobody ended.
	s.Write(0, slate.Sector{3: 6, 6: 1, 59: 7, 63: 6})
	s.Flush()
	tells(t, "another try", s, [][]byte{laid(1, 1), laid(3, 1), laid(3, 2)}, 8)
	errs(t, "Spend", v.Spend(2), api.OK)
	tells(t, "anew", s, [][]byte{laid(1, 1), laid(3, 3)}, 9)
}

// dead holds a vow to the error that it is dead by, whatever it is asked for; what it tells stays.
func dead(t *testing.T, v *Vow, want api.Errno, m *model) {
	t.Helper()
	for _, k := range []api.Key{{}, {Epoch: 9}, {Epoch: 65537}} {
		errs(t, "Reserve", v.Reserve(k), want)
		errs(t, "Raise", v.Raise(1, k), want)
		errs(t, "Raise", v.Raise(8, k), want)
	}
	for _, index := range []uint32{0, 5, 9, 65538} {
		errs(t, "Spend", v.Spend(index), want)
	}
	for _, x := range []renew.Signed{some(1, 0), some(2, 8), some(2, 9), some(8, 0), some(1, 65537)} {
		errs(t, "Anchor", v.Anchor(x), want)
	}
	if m != nil {
		m.is(t, "dead", v)
	}
}

// P16.2, Errors: an error of what is kept is answered from then on; what was turned ahead of it is told.
func TestDead(t *testing.T) {
	for fuse := range 26 {
		for _, a := range []ask{
			{call: 0, key: api.Key{Epoch: 8}},
			{call: 1, index: 6},
			{call: 2, dest: 1, key: api.Key{Epoch: 8}},
			{call: 3, x: some(2, 8)},
		} {
			s := device(t, 400)
			v, m := opens(t, s), none()
			m.boot = 1
			for _, b := range []ask{{call: 0}, {call: 1, index: 4}, {call: 2, dest: 1}, {call: 3, x: some(2, 7)}} {
				errs(t, "a call", b.of(v), api.OK)
				m.turn(b)
			}
			p, _ := m.turn(a)
			s.Fuse(fuse)
			if fuse > room([][]byte{p})-1 {
				errs(t, "a call", a.of(v), api.OK)
				m.is(t, "with power", v)
				continue
			}
			errs(t, "a call", a.of(v), api.ErrDown)
			dead(t, v, api.ErrDown, m)
			s.Crash(0, 0)
			steps := s.Steps()
			dead(t, v, api.ErrDown, m)
			if s.Steps() != steps {
				t.Fatal("a dead vow did a step")
			}
		}
	}
}

// P16.2, Errors: other errors than those of what is kept end nothing, and what turns nothing needs no power.
func TestNotDead(t *testing.T) {
	s := device(t, 400)
	v := opens(t, s)
	errs(t, "Reserve", v.Reserve(api.Key{}), api.OK)
	errs(t, "Spend", v.Spend(3), api.OK)
	errs(t, "Raise", v.Raise(1, api.Key{Seq: 1}), api.OK)
	s.Fuse(0)
	errs(t, "Reserve", v.Reserve(api.Key{Seq: 64}), api.ErrArg)
	errs(t, "Spend", v.Spend(2), api.ErrSpent)
	errs(t, "Raise", v.Raise(1, api.Key{}), api.ErrOld)
	errs(t, "Anchor", v.Anchor(some(8, 0)), api.ErrArg)
	errs(t, "Reserve", v.Reserve(api.Key{}), api.OK)
	errs(t, "Raise", v.Raise(1, api.Key{Seq: 1}), api.OK)
	s.Fuse(-1)
	errs(t, "Spend", v.Spend(4), api.OK)
}

// P16.2, Errors: a device that is too small for the snapshot, too.
func TestFull(t *testing.T) {
	s := device(t, 6)
	v, m := opens(t, s), none()
	m.boot, m.index = 1, 1
	errs(t, "Spend", v.Spend(0), api.OK)
	errs(t, "Raise", v.Raise(1, api.Key{Epoch: 1}), api.ErrFull)
	m.floors[1] = api.Key{Epoch: 1}
	dead(t, v, api.ErrFull, m)
	m = none()
	m.boot, m.index = 2, 1
	m.is(t, "opened again", opens(t, s))
	s.Crash(0, 0)
	m.boot = 3
	m.is(t, "opened behind a crash", opens(t, s))
}

// P16.2, Errors: what Load and Start answer when a device is full.
func TestErrorsWhenFull(t *testing.T) {
	fill := func(gen uint32) (*slate.Slate, *Vow) {
		s := device(t, 8)
		_, e := diary.Start(s, gen, nil)
		errs(t, "Start", e, api.OK)
		v := opens(t, s)
		errs(t, "Spend", v.Spend(0), api.OK)
		errs(t, "Spend", v.Spend(1), api.OK)
		return s, v
	}
	_, v := fill(math.MaxUint32 - 1)
	errs(t, "no generation is left", v.Spend(2), api.ErrArg)
	dead(t, v, api.ErrArg, nil)
	s, v := fill(5)
	s.Write(4, slate.Sector{3: 5, 63: 5})
	errs(t, "a broken half", v.Spend(2), api.ErrBroken)
	dead(t, v, api.ErrBroken, nil)
	for fuse := range 5 {
		s, v = fill(5)
		s.Fuse(fuse)
		want := api.ErrDown
		if fuse == 4 {
			want = api.OK
		}
		errs(t, "a snapshot that is cut off", v.Spend(2), want)
		if v.Index() != 3 {
			t.Fatalf("Index: %d", v.Index())
		}
	}
}

// R1: of nil, and of a vow that nobody opened.
func TestNilVow(t *testing.T) {
	var v *Vow
	dead(t, v, api.ErrNil, none())
	v = &Vow{}
	none().is(t, "nobody's", v)
	for _, call := range []ask{{call: 0}, {call: 1}, {call: 2}, {call: 3, x: some(1, 1)}} {
		call.of(v)
		call.of(&Vow{})
	}
}

// R3: a list of anchors is new memory, its spare room too.
func TestNewMemory(t *testing.T) {
	s := device(t, 600)
	v, m := opens(t, s), none()
	m.boot = 1
	for epoch := range uint32(5) {
		errs(t, "Anchor", v.Anchor(some(1, epoch)), api.OK)
		m.anchors[1] = append(m.anchors[1], some(1, epoch))
		l := v.Anchors(1)
		l = l[:cap(l)]
		for at := range l {
			l[at] = some(3, 9)
		}
		m.is(t, "overwritten", v)
	}
	m.boot = 2
	m.is(t, "opened again", opens(t, s))
}
