package slate

import (
	"fingerpost/api"
	"math"
	"math/rand"
	"testing"
)

// P14.1 to P14.3: the chapter's example.
func TestExample(t *testing.T) {
	s := device(t, 2)
	errs(t, "Write", s.Write(0, full('a')), api.OK)
	errs(t, "Write", s.Write(1, full('b')), api.OK)
	errs(t, "Crash", s.Crash(1, 3), api.OK)
	reads(t, s, full('a'), text("bbb"))
}

// P14.1, P14.2, Errors: devices of all sizes, at first zero.
func TestNew(t *testing.T) {
	for _, n := range []int{1, 2, 3, 64, 4095, 4096} {
		s := device(t, n)
		tells(t, s, n, 0, 0, false)
		reads(t, s, make([]Sector, n)...)
		errs(t, "Write", s.Write(n-1, full(1)), api.OK)
		errs(t, "Flush", s.Flush(), api.OK)
		if x, e := s.Read(n - 1); x != full(1) || e != api.OK {
			t.Errorf("the last of %d: %x, %d", n, x, e)
		}
	}
	for _, n := range []int{0, -1, 4097, 1 << 32, math.MaxInt, math.MinInt} {
		if s, e := New(n); s != nil || e != api.ErrArg {
			t.Errorf("New(%d): %v, %d", n, s, e)
		}
	}
}

// P14.1, P14.2: reads see what waits; a flush lets it last, in order.
func TestWriteAndFlush(t *testing.T) {
	s := device(t, 3)
	errs(t, "Write", s.Write(0, full(1)), api.OK)
	errs(t, "Write", s.Write(2, full(2)), api.OK)
	errs(t, "Write", s.Write(0, full(3)), api.OK)
	reads(t, s, full(3), Sector{}, full(2))
	tells(t, s, 3, 3, 3, false)
	errs(t, "Flush", s.Flush(), api.OK)
	tells(t, s, 3, 0, 4, false)
	reads(t, s, full(3), Sector{}, full(2))
	errs(t, "Flush", s.Flush(), api.OK)
	tells(t, s, 3, 0, 5, false)
	errs(t, "Write", s.Write(2, full(4)), api.OK)
	reads(t, s, full(3), Sector{}, full(4))
	errs(t, "Crash", s.Crash(0, 0), api.OK)
	reads(t, s, full(3), Sector{}, full(2))
	tells(t, s, 3, 0, 6, false)
}

// P14.3: of the queue the first writes last, of the next one the first bytes, over what the sector was by those.
func TestCrash(t *testing.T) {
	for writes := -1; writes < 6; writes++ {
		for bytes := -1; bytes < 67; bytes++ {
			s := device(t, 2)
			s.Write(1, full(9))
			s.Flush()
			l := []write{{0, full(1)}, {1, full(2)}, {0, full(3)}, {0, full(4)}}
			for _, w := range l {
				errs(t, "Write", s.Write(w.at, w.to), api.OK)
			}
			want := []Sector{{}, full(9)}
			for at, w := range l {
				if at < writes {
					want[w.at] = w.to
				}
				if at == max(writes, 0) {
					want[w.at] = torn(want[w.at], w.to, min(max(bytes, 0), 64))
				}
			}
			errs(t, "Crash", s.Crash(writes, bytes), api.OK)
			reads(t, s, want...)
			tells(t, s, 2, 0, 6, false)
			errs(t, "Crash", s.Crash(4, 64), api.OK)
			reads(t, s, want...)
		}
	}
}

// P14.3: numbers far off are none, and all.
func TestCrashOfAnyNumbers(t *testing.T) {
	for _, writes := range []int{math.MinInt, -2, 0, 2, 3, 1 << 32, math.MaxInt} {
		for _, bytes := range []int{math.MinInt, -64, 0, 64, 65, 1 << 32, 1<<32 + 1, math.MaxInt} {
			s := device(t, 3)
			for at := range 3 {
				s.Write(at, full(7))
			}
			errs(t, "Crash", s.Crash(writes, bytes), api.OK)
			want := make([]Sector, 3)
			for at := range want {
				if at < writes || at == max(writes, 0) && bytes > 0 {
					want[at] = full(7)
				}
			}
			reads(t, s, want...)
		}
	}
}

// P14.3: so many steps are done, then the power is gone, till a crash.
func TestFuse(t *testing.T) {
	for n := range 6 {
		s := device(t, 2)
		errs(t, "Fuse", s.Fuse(n), api.OK)
		for range n {
			s.Read(0)
			errs(t, "Write of no sector", s.Write(2, full(1)), api.ErrArg)
			if s.Steps()%2 == 0 {
				errs(t, "Write", s.Write(0, full(1)), api.OK)
			} else {
				errs(t, "Flush", s.Flush(), api.OK)
			}
		}
		// The fuse is at its end, but no step was asked for.
		tells(t, s, 2, n%2, n, false)
		errs(t, "Write of no sector", s.Write(-1, full(1)), api.ErrArg)
		tells(t, s, 2, n%2, n, false)
		if n%3 == 0 {
			errs(t, "Flush", s.Flush(), api.ErrDown)
		} else {
			errs(t, "Write", s.Write(1, full(2)), api.ErrDown)
		}
		for range 2 {
			tells(t, s, 2, n%2, n, true)
			errs(t, "Write", s.Write(1, full(2)), api.ErrDown)
			errs(t, "Flush", s.Flush(), api.ErrDown)
			errs(t, "Fuse", s.Fuse(-1), api.ErrDown)
			errs(t, "Fuse", s.Fuse(5), api.ErrDown)
			if x, e := s.Read(0); x != (Sector{}) || e != api.ErrDown {
				t.Errorf("Read: %x, %d", x, e)
			}
		}
		errs(t, "Crash", s.Crash(1, 0), api.OK)
		tells(t, s, 2, 0, n, false)
		want := Sector{}
		if n > 0 {
			want = full(1)
		}
		reads(t, s, want, Sector{})
		for range 9 {
			errs(t, "Write", s.Write(1, full(2)), api.OK)
		}
		tells(t, s, 2, 9, n+9, false)
	}
}

// P14.3: a fuse replaces the one ahead; below 0 there is none; a crash takes it away, with the power there, too.
func TestOtherFuses(t *testing.T) {
	for _, n := range []int{-1, -2, math.MinInt} {
		s := device(t, 1)
		s.Fuse(1)
		errs(t, "Fuse", s.Fuse(n), api.OK)
		for range 4 {
			errs(t, "Flush", s.Flush(), api.OK)
		}
	}
	s := device(t, 1)
	s.Fuse(0)
	s.Fuse(2)
	errs(t, "Flush", s.Flush(), api.OK)
	s.Fuse(2)
	errs(t, "Flush", s.Flush(), api.OK)
	errs(t, "Flush", s.Flush(), api.OK)
	s.Crash(0, 0)
	errs(t, "Flush", s.Flush(), api.OK)
	s.Fuse(0)
	s.Crash(0, 0)
	errs(t, "Flush", s.Flush(), api.OK)
	s.Fuse(math.MaxInt)
	errs(t, "Flush", s.Flush(), api.OK)
	tells(t, s, 1, 0, 6, false)
}

// Errors: of a sector that isn't there; the power that is gone comes ahead of it, and it ahead of the fuse.
func TestNoSuchSector(t *testing.T) {
	for _, at := range []int{-1, 2, 3, 64, 4096, 1 << 32, math.MaxInt, math.MinInt} {
		s := device(t, 2)
		refused := func(want api.Errno) {
			t.Helper()
			errs(t, "Write", s.Write(at, full(1)), want)
			if x, e := s.Read(at); x != (Sector{}) || e != want {
				t.Errorf("Read(%d): %x, %d, not %d", at, x, e, want)
			}
		}
		refused(api.ErrArg)
		s.Fuse(0)
		refused(api.ErrArg)
		tells(t, s, 2, 0, 0, false)
		s.Flush()
		refused(api.ErrDown)
		s.Crash(0, 0)
		refused(api.ErrArg)
		reads(t, s, Sector{}, Sector{})
	}
}

// R1: of nil, and of a device that nobody made.
func TestNoDevice(t *testing.T) {
	var s *Slate
	for _, at := range []int{-1, 0, 1, math.MaxInt} {
		errs(t, "Write", s.Write(at, full(1)), api.ErrNil)
		errs(t, "Fuse", s.Fuse(at), api.ErrNil)
		errs(t, "Crash", s.Crash(at, at), api.ErrNil)
		if x, e := s.Read(at); x != (Sector{}) || e != api.ErrNil {
			t.Errorf("Read: %x, %d", x, e)
		}
	}
	errs(t, "Flush", s.Flush(), api.ErrNil)
	tells(t, s, 0, 0, 0, false)

	s = &Slate{}
	s.Write(0, full(1))
	s.Read(0)
	s.Flush()
	s.Fuse(0)
	s.Crash(1, 1)
	s.Sectors()
}

// P14.1 to P14.3: any calls, held against the model.
func TestAgainstModel(t *testing.T) {
	r, seen := rand.New(rand.NewSource(1)), map[api.Errno]int{}
	for range 300 {
		n := 1 + r.Intn(6)
		s, m := device(t, n), &model{sectors: n, lasts: map[int]Sector{}}
		for range 200 {
			at := r.Intn(n+2) - 1
			var got, want api.Errno
			switch r.Intn(16) {
			case 0:
				writes, bytes := r.Intn(8)-2, r.Intn(70)-2
				got = s.Crash(writes, bytes)
				m.crash(writes, bytes)
			case 1:
				fuse := r.Intn(12) - 3
				got, want = s.Fuse(fuse), m.setFuse(fuse)
			case 2, 3:
				got, want = s.Flush(), m.flush()
			case 4, 5, 6:
				x, e := s.Read(at)
				y, f := m.read(at)
				if got, want = e, f; x != y {
					t.Fatalf("Read(%d): %x, not %x", at, x, y)
				}
			default:
				x := full(byte(1 + r.Intn(255)))
				got, want = s.Write(at, x), m.write(at, x)
			}
			errs(t, "a call", got, want)
			tells(t, s, n, len(m.waits), m.steps, m.down)
			seen[got]++
		}
	}
	for _, e := range []api.Errno{api.OK, api.ErrArg, api.ErrDown} {
		if seen[e] < 1000 {
			t.Errorf("%d came %d times", e, seen[e])
		}
	}
}

// P14.4: behind a crash the sectors are as some beginning of the writes made them, no shorter than what was flushed, but for one.
func TestWhatLasts(t *testing.T) {
	r := rand.New(rand.NewSource(2))
	for round := range 2000 {
		s := device(t, 4)
		stages := [][]Sector{make([]Sector, 4)} // behind each write, from the last flush on
		s.Fuse(r.Intn(20))
		for !s.Down() {
			if r.Intn(4) == 0 {
				if s.Flush() == api.OK {
					stages = stages[len(stages)-1:]
				}
				continue
			}
			at, x := r.Intn(4), full(byte(1+r.Intn(255)))
			if s.Write(at, x) == api.OK {
				next := append([]Sector(nil), stages[len(stages)-1]...)
				next[at] = x
				stages = append(stages, next)
			}
		}
		s.Crash(r.Intn(6), r.Intn(65))
		best := 4
		for _, stage := range stages {
			others := 0
			for at := range stage {
				if x, _ := s.Read(at); x != stage[at] {
					others++
				}
			}
			best = min(best, others)
		}
		if best > 1 {
			t.Fatalf("round %d: %d sectors are as no beginning made them", round, best)
		}
	}
}
