package router

import (
	"fingerpost/api"
	"fingerpost/count"
	"reflect"
	"slices"
	"testing"
)

// died holds a router to being dead: what it tells then, and that nothing is done any more.
func (s *stage) died(what string, want api.Errno, now int64, spent uint32) {
	s.Helper()
	is(s.T, what+": Dead", s.r.Dead(), want)
	tells := telling{Now: now, Boot: s.r.vow.Boot(), Spent: spent, Dead: want}
	if got := telled(s.r); !reflect.DeepEqual(got, tells) {
		s.Fatalf("%s: it tells %v, not %v", what, got, tells)
	}
	was := s.r.Counters()
	if was[count.Broken] != 1 {
		s.Fatalf("%s: broken is %d", what, was[count.Broken])
	}
	for range 2 {
		is(s.T, what+": Take", s.r.Take(s.frame(helloOf(1, 1))), want)
		is(s.T, what+": Take", s.r.Take(nil), want)
		if outs, e := s.r.Tick(); outs != nil || e != want {
			s.Fatalf("%s: Tick: %v, %d", what, outs, e)
		}
	}
	if got := telled(s.r); !reflect.DeepEqual(got, tells) || !slices.Equal(s.r.Counters(), was) {
		s.Fatalf("%s: it tells %v, not %v, and counted %v, not %v", what, got, tells, s.r.Counters(), was)
	}
}

// fails holds a tick to an error.
func (s *stage) fails(what string, want api.Errno) {
	s.Helper()
	if outs, e := s.r.Tick(); outs != nil || e != want {
		s.Fatalf("%s: Tick: %v, %d, not %d", what, outs, e, want)
	}
}

// P25.2, P25.3: where the device fails as an own sequence begins, the router is dead; the reserve, the index and the anchor are kept in this order.
func TestDeadInBegin(t *testing.T) {
	const reserve, index, anchor = 2, 2, 24
	for fuse := range reserve + index + anchor + 1 {
		s := play(t, wide(), 1)
		s.meet(1)
		is(t, "Fuse", s.device.Fuse(fuse), api.OK)
		if fuse == reserve+index+anchor {
			s.ticks(1)
			is(t, "Dead", s.r.Dead(), api.OK)
			continue
		}
		s.fails("power", api.ErrDown)
		spent := uint32(0)
		if fuse >= reserve {
			spent = 1
		}
		s.died("power", api.ErrDown, 1, spent)
		if k, ok := s.r.vow.Reserved(); k != (api.Key{}) || !ok {
			t.Errorf("the reserve is %v, %v", k, ok)
		}
	}
}

// P25.2: where it fails as a floor is raised, too, and nothing sets out.
func TestDeadInTell(t *testing.T) {
	for fuse := range 5 {
		s := ready(t, wide(), 1)
		s.offer(1, 2, key(0, 0, 1))
		s.offer(1, 3, key(0, 0, 1))
		is(t, "Fuse", s.device.Fuse(fuse), api.OK)
		if fuse == 4 {
			s.ticks(1)
			is(t, "Dead", s.r.Dead(), api.OK)
			continue
		}
		s.fails("power", api.ErrDown)
		s.died("power", api.ErrDown, 2, 1)
	}
}

// P25.2: where it fails as a record is kept, too; the record isn't flooded behind that.
func TestDeadInTake(t *testing.T) {
	for fuse := range 25 {
		s := play(t, long(), 1)
		s.meet(1)
		s.ticks(1)
		is(t, "Fuse", s.device.Fuse(fuse), api.OK)
		x := renewalOf(1, recordOf(long(), 3, 0))
		if fuse == 24 {
			s.take("power", x, api.OK, count.Renewals)
			continue
		}
		s.take("power", x, api.ErrDown, count.Renewals, count.Broken)
		s.died("power", api.ErrDown, 1, 1)
	}
}

// P25.2: a device that is full is one that fails.
func TestDeadOfFull(t *testing.T) {
	s := &stage{T: t, setup: setupOf(long(), 0, 1), device: device(t, 98), boots: [api.MaxNodes]uint64{1, 1, 1, 1}}
	s.r = made(t, s.setup, s.device)
	s.meet(1)
	s.ticks(1)
	s.take("room", renewalOf(1, recordOf(long(), 3, 0)), api.ErrFull, count.Renewals, count.Broken)
	s.died("full", api.ErrFull, 1, 1)
}

// P25.2: an own record that isn't signed by the own first key is the router's end.
func TestDeadOfAnotherSeed(t *testing.T) {
	s := play(t, wide(), 1)
	s.setup.Seed[0]++
	s.again()
	s.meet(1)
	s.fails("another seed", api.ErrSign)
	s.died("another seed", api.ErrSign, 1, 1)
	if l := s.r.vow.Anchors(0); len(l) != 0 {
		t.Errorf("%d anchors", len(l))
	}
}

// P25.2: a device that nothing is kept on isn't missed.
func TestPowerlessDevice(t *testing.T) {
	s := ready(t, wide(), 1)
	is(t, "Fuse", s.device.Fuse(0), api.OK)
	s.ticks(1)
	s.take("refused", s.claims(1, 3, key(7, 0, 0)), api.ErrNone, count.Updates, count.Entries, count.Rootless)
	is(t, "Dead", s.r.Dead(), api.OK)
	if s.device.Down() {
		t.Error("something was written")
	}
}
