package diary

import (
	"bytes"
	"encoding/hex"
	"fingerpost/api"
	"fingerpost/slate"
	"math"
	"math/rand"
	"slices"
	"testing"
)

// P15.2: the chapter's example.
func TestExample(t *testing.T) {
	s := device(t, 8)
	d := starts(t, s, 1, nil)
	if d.Free() != 3 || d.Gen() != 1 || Need(51) != 2 {
		t.Errorf("Free: %d, Gen: %d, Need: %d", d.Free(), d.Gen(), Need(51))
	}
	want := make([]slate.Sector, 8)
	want[4] = one(1, 0, 7, "")
	if !slices.Equal(all(t, s), want) || s.Steps() != 2 || s.Loose() != 0 {
		t.Errorf("%x, %d steps, %d loose", all(t, s), s.Steps(), s.Loose())
	}
}

// P15.2
func TestNeed(t *testing.T) {
	for n, want := range map[int]int{
		math.MinInt: 1, -50: 1, -1: 1, 0: 1, 1: 1, 49: 1, 50: 1, 51: 2, 99: 2, 100: 2, 101: 3,
		2047: 41, 2048: 41, 2050: 41, 2051: 42, 1 << 20: 20972, math.MaxInt: math.MaxInt/50 + 1,
	} {
		if got := Need(n); got != want {
			t.Errorf("Need(%d): %d, not %d", n, got, want)
		}
	}
}

// P15.1, P15.2: a sector's bytes, worked out by hand.
func TestBytes(t *testing.T) {
	s := device(t, 4096)
	l := make([][]byte, 258)
	starts(t, s, 0x01020304, append(l, []byte("abc")))
	want, _ := hex.DecodeString("01020304" + "0102" + "03" + "03" + "616263")
	want = append(want, make([]byte, 47)...)
	want = append(want, 0x01, 0x39, 1, 2, 3, 4)
	if x, _ := s.Read(258); !bytes.Equal(x[:], want) {
		t.Errorf("%x, not %x", x, want)
	}
	// The sum of a sector of high bytes takes two bytes.
	starts(t, s, 0xfffffffe, [][]byte{bytes.Repeat([]byte{255}, 50)})
	x, _ := s.Read(0)
	if !bytes.Equal(x[:8], []byte{255, 255, 255, 254, 0, 0, 3, 50}) || !bytes.Equal(x[58:], []byte{0x35, 0xfe, 255, 255, 255, 254}) {
		t.Errorf("%x", x)
	}
}

// P15.2: records of all lengths stand in their half as the chapter tells, in order, and nowhere else; one flush is done behind them.
func TestStartAndAppend(t *testing.T) {
	var snapshot, behind [][]byte
	for _, n := range []int{0, 1, 49, 50, 51, 100, 101, 2000, 2047, 2048} {
		snapshot, behind = append(snapshot, text(n)), append(behind, text(n)[n/2:], nil)
	}
	for _, sectors := range []int{1000, 1001} {
		for gen, base := range map[uint32]int{1: 500, 2: 0, 3: 500, 254: 0, 65536: 0, 1<<32 - 2: 0, 1<<32 - 1: 500} {
			s := device(t, sectors)
			was := make([]slate.Sector, sectors)
			for at := range was {
				was[at] = one(77, at, 3, "other")
			}
			lay(t, s, 0, was...)
			steps := s.Steps()
			d := starts(t, s, gen, snapshot)
			first := written(gen, snapshot, nil)
			copy(was[base:], first)
			if !slices.Equal(all(t, s), was) || s.Steps() != steps+len(first)+1 || s.Loose() != 0 || d.Gen() != gen || d.Free() != 500-len(first) {
				t.Fatalf("Start(%d): %d steps, Free %d", gen, s.Steps()-steps, d.Free())
			}
			free := d.Free()
			for _, p := range behind {
				errs(t, "Append", d.Append(p), api.OK)
				free -= Need(len(p))
				if d.Free() != free {
					t.Fatalf("Free: %d, not %d", d.Free(), free)
				}
			}
			whole := written(gen, snapshot, behind)
			copy(was[base:], whole)
			if !slices.Equal(all(t, s), was) || s.Loose() != len(whole)-len(first) || s.Steps() != steps+len(whole)+1 {
				t.Fatalf("Append: %d steps, %d loose", s.Steps()-steps, s.Loose())
			}
			errs(t, "Flush", d.Flush(), api.OK)
			if s.Loose() != 0 || s.Steps() != steps+len(whole)+2 {
				t.Fatalf("Flush: %d steps, %d loose", s.Steps()-steps, s.Loose())
			}
		}
	}
}

// P15.2: a half is filled to its last sector, that of an odd number of sectors, too.
func TestFullHalves(t *testing.T) {
	for _, sectors := range []int{2, 3, 4, 5, 8, 9, 4096} {
		for _, gen := range []uint32{1, 2} {
			s, half := device(t, sectors), sectors/2
			errs(t, "Start", second(Start(s, gen, make([][]byte, half))), api.ErrFull)
			d := starts(t, s, gen, make([][]byte, half-1))
			if d.Free() != 0 {
				t.Errorf("Free: %d", d.Free())
			}
			errs(t, "Append", d.Append(nil), api.ErrFull)
			d = starts(t, s, gen+2, nil)
			for range half - 1 {
				errs(t, "Append", d.Append(nil), api.OK)
			}
			errs(t, "Append", d.Append(nil), api.ErrFull)
			errs(t, "Flush", d.Flush(), api.OK)
			was := make([]slate.Sector, sectors)
			copy(was[int(gen%2)*half:], written(gen+2, nil, make([][]byte, half-1)))
			if !slices.Equal(all(t, s), was) {
				t.Errorf("%d sectors, the generation %d: %x", sectors, gen, all(t, s))
			}
		}
	}
}

func second(_ *Diary, e api.Errno) api.Errno {
	return e
}

// refused holds Start to an error, and tells how many writes it left behind.
func refused(t *testing.T, s *slate.Slate, gen uint32, l [][]byte, want api.Errno) int {
	t.Helper()
	steps := s.Steps()
	if d, e := Start(s, gen, l); d != nil || e != want {
		t.Fatalf("Start(%d, %d records): %v, %d, not %d", gen, len(l), d, e, want)
	}
	return s.Steps() - steps
}

// P15.2, Errors: of Start, the one named first.
func TestWrongStarts(t *testing.T) {
	long, most := [][]byte{make([]byte, 2049)}, [][]byte{make([]byte, 2048)}
	for _, gen := range []uint32{0, 1, 2} {
		for _, l := range [][][]byte{nil, long, recs("a")} {
			refused(t, nil, gen, l, api.ErrNil)
			refused(t, &slate.Slate{}, gen, l, api.ErrArg)
			refused(t, device(t, 1), gen, l, api.ErrArg)
		}
	}
	for _, fuse := range []int{-1, 0} {
		s := device(t, 80)
		s.Fuse(fuse)
		for _, l := range [][][]byte{nil, long, most} {
			if n := refused(t, s, 0, l, api.ErrArg); n != 0 {
				t.Errorf("%d steps", n)
			}
		}
		for _, gen := range []uint32{1, 2, 3, 1<<32 - 1} {
			n := refused(t, s, gen, long, api.ErrLimit)
			n += refused(t, s, gen, [][]byte{make([]byte, 1<<20)}, api.ErrLimit)
			n += refused(t, s, gen, most, api.ErrFull)
			if n != 0 || s.Down() {
				t.Errorf("%d steps", n)
			}
		}
		s.Fuse(0)
		refused(t, s, 1, nil, api.ErrDown)
		refused(t, s, 1, nil, api.ErrDown)
		refused(t, s, 1, recs("a"), api.ErrDown)
		refused(t, s, 1, long, api.ErrLimit)
		refused(t, s, 1, most, api.ErrFull)
		refused(t, s, 0, most, api.ErrArg)
	}
}

// P15.2, Errors: what was written ahead of an error stays, and isn't flushed.
func TestCutStarts(t *testing.T) {
	long, most := string(make([]byte, 2049)), string(make([]byte, 2048))
	for _, x := range []struct {
		l    [][]byte
		sent [][]byte
		want api.Errno
	}{
		{recs("a", long, "b"), recs("a"), api.ErrLimit},
		{recs("a", string(text(51)), "", long), recs("a", string(text(51)), ""), api.ErrLimit},
		{recs("a", most, long), recs("a"), api.ErrFull},
		{recs("a", "b", most), recs("a", "b"), api.ErrFull},
		{recs("1", "2", "3", "4", "5"), recs("1", "2", "3", "4", "5"), api.ErrFull},
		{recs("1", string(text(200))), recs("1", string(text(200))), api.ErrFull},
	} {
		s := device(t, 10)
		var sent []slate.Sector
		for _, p := range x.sent {
			sent = append(sent, many(2, len(sent), 0, p)...)
		}
		if n := refused(t, s, 2, x.l, x.want); n != len(sent) || s.Loose() != n {
			t.Errorf("%d steps, %d loose, not %d", n, s.Loose(), len(sent))
		}
		if !slices.Equal(all(t, s)[:len(sent)], sent) {
			t.Errorf("%x, not %x", all(t, s), sent)
		}
	}
	l := append(recs("a", "b"), text(120))
	whole := written(1, l, nil)
	for fuse := range len(whole) + 1 {
		s := device(t, 20)
		s.Fuse(fuse)
		refused(t, s, 1, l, api.ErrDown)
		if s.Loose() != fuse || s.Steps() != fuse || !s.Down() {
			t.Errorf("%d steps, %d loose, not %d", s.Steps(), s.Loose(), fuse)
		}
		s.Crash(fuse, 0)
		if !slices.Equal(all(t, s)[10:10+fuse], whole[:fuse]) {
			t.Errorf("%d steps: %x", fuse, all(t, s))
		}
	}
}

// P15.2, Errors: of Append; nothing has changed.
func TestWrongAppends(t *testing.T) {
	s := device(t, 90)
	d := starts(t, s, 1, recs("a"))
	was := all(t, s)
	kept := func(free, loose int) {
		t.Helper()
		if d.Free() != free || s.Loose() != loose || d.Gen() != 1 {
			t.Fatalf("Free: %d, %d loose, not %d, %d", d.Free(), s.Loose(), free, loose)
		}
	}
	kept(43, 0)
	errs(t, "Append", d.Append(make([]byte, 2049)), api.ErrLimit)
	errs(t, "Append", d.Append(make([]byte, 1<<20)), api.ErrLimit)
	kept(43, 0)
	errs(t, "Append", d.Append(make([]byte, 2048)), api.OK)
	kept(2, 41)
	errs(t, "Append", d.Append(make([]byte, 2048)), api.ErrFull)
	errs(t, "Append", d.Append(make([]byte, 2049)), api.ErrLimit)
	errs(t, "Append", d.Append(make([]byte, 101)), api.ErrFull)
	kept(2, 41)
	s.Fuse(0)
	errs(t, "Append", d.Append(make([]byte, 101)), api.ErrFull)
	if s.Down() {
		t.Error("a record without room was a step")
	}
	errs(t, "Append", d.Append(nil), api.ErrDown)
	errs(t, "Append", d.Append(nil), api.ErrDown)
	errs(t, "Append", d.Append(make([]byte, 101)), api.ErrFull)
	errs(t, "Append", d.Append(make([]byte, 2049)), api.ErrLimit)
	errs(t, "Flush", d.Flush(), api.ErrDown)
	kept(2, 41)
	s.Crash(0, 0)
	if !slices.Equal(all(t, s), was) {
		t.Error("what wasn't flushed lasted")
	}
}

// P15.2: a record that was cut off took no room, as its diary tells.
func TestCutAppend(t *testing.T) {
	s := device(t, 20)
	d := starts(t, s, 1, nil)
	s.Fuse(2)
	errs(t, "Append", d.Append(text(150)), api.ErrDown)
	if d.Free() != 9 || s.Loose() != 2 {
		t.Errorf("Free: %d, %d loose", d.Free(), s.Loose())
	}
	s.Crash(2, 0)
	loads(t, "a record that was cut off", s, nil, 2, api.OK)
}

// R1: of nil, and of a diary that nobody made.
func TestNilDiary(t *testing.T) {
	var d *Diary
	errs(t, "Append", d.Append(nil), api.ErrNil)
	errs(t, "Append", d.Append(make([]byte, 3000)), api.ErrNil)
	errs(t, "Flush", d.Flush(), api.ErrNil)
	if d.Gen() != 0 || d.Free() != 0 {
		t.Errorf("%d, %d", d.Gen(), d.Free())
	}
	d = &Diary{}
	d.Append(nil)
	d.Flush()
	d.Gen()
	d.Free()
}

// R3: what is handed in is not changed and not kept; what is handed out is new memory, of each record its own.
func TestNewMemory(t *testing.T) {
	s := device(t, 40)
	l := append(recs("a", "b"), text(99))
	want := append(recs("a", "b"), text(99), []byte("c"), text(60))
	d := starts(t, s, 1, l)
	c := []byte("cdefg")
	d.Append(c[:1])
	if string(c) != "cdefg" || !alike(l, want[:3]) {
		t.Error("what was handed in has changed")
	}
	for _, p := range append(l, c) {
		fill(p)
	}
	d.Append(text(60))
	got, _, _ := Load(s)
	for at := range got {
		if !alike(got[at:], want[at:]) {
			t.Fatalf("the record %d is memory of another one", at)
		}
		fill(got[at])
	}
	loads(t, "once more", s, want, 2, api.OK)
}

// fill overwrites a list, its spare room too.
func fill(b []byte) {
	b = b[:cap(b)]
	for at := range b {
		b[at] = 0xee
	}
}

// P15.2, P15.1: what was started and appended is told, from any records.
func TestRoundTrips(t *testing.T) {
	r := rand.New(rand.NewSource(1))
	for range 300 {
		s := device(t, 20+r.Intn(200))
		var told [][]byte
		next := uint32(1)
		for range 8 {
			loads(t, "a round", s, told, next, api.OK)
			told = nil
			for range r.Intn(5) {
				told = append(told, text(r.Intn(2049)>>r.Intn(12)))
			}
			d, e := Start(s, next, told)
			if e == api.ErrFull {
				break
			}
			for range r.Intn(9) {
				p := text(r.Intn(2049) >> r.Intn(12))
				if e := d.Append(p); e == api.OK {
					told = append(told, p)
				}
			}
			next++
		}
	}
}
