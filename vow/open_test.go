package vow

import (
	"encoding/hex"
	"fingerpost/api"
	"fingerpost/diary"
	"fingerpost/renew"
	"fingerpost/slate"
	"math"
	"slices"
	"testing"
)

// having is a device that tells such records, of a generation.
func having(t *testing.T, gen uint32, l ...[]byte) *slate.Slate {
	t.Helper()
	s := device(t, 400)
	_, e := diary.Start(s, gen, l)
	errs(t, "Start", e, api.OK)
	return s
}

// P16.1: an empty device, opened again and again.
func TestBoots(t *testing.T) {
	s := device(t, 400)
	for boot := uint64(1); boot < 20; boot++ {
		m := none()
		m.boot = boot
		m.is(t, "a vow", opens(t, s))
		tells(t, "a boot", s, m.snapshot(), uint32(boot)+1)
		if s.Loose() != 0 {
			t.Fatal("a boot doesn't last")
		}
	}
}

// P16.1: a snapshot's bytes, worked out by hand, and their order.
func TestKnownBytes(t *testing.T) {
	s := device(t, 400)
	v := opens(t, s)
	x, y := some(0, 258), some(7, 0)
	errs(t, "Anchor", v.Anchor(y), api.OK)
	errs(t, "Raise", v.Raise(7, api.Key{Epoch: 65536, Seq: 63, Metric: 15}), api.OK)
	errs(t, "Anchor", v.Anchor(x), api.OK)
	errs(t, "Raise", v.Raise(0, api.Key{}), api.OK)
	errs(t, "Spend", v.Spend(65537), api.OK)
	errs(t, "Reserve", v.Reserve(api.Key{Epoch: 258, Seq: 3, Metric: 4}), api.OK)
	opens(t, s)
	l, _, _ := diary.Load(s)
	for at, want := range []string{
		"01" + "0000000000000002",
		"02" + "0000000000000102" + "0000000000000003" + "0000000000000000",
		"03" + "0000000000010002",
		"04" + "0000000000000000" + "0000000000000000" + "0000000000000000" + "0000000000000000",
		"04" + "0000000000000007" + "0000000000010000" + "000000000000003f" + "000000000000000f",
		"05" + "00" + "00000102" + hex.EncodeToString(x.Record.Root[:]) + hex.EncodeToString(x.Record.Next[:]),
		"05" + "07" + "00000000" + hex.EncodeToString(y.Record.Root[:]) + hex.EncodeToString(y.Record.Next[:]),
	} {
		if len(l) != 7 || len(l[5]) != 1126 || len(l[6]) != 1126 || hex.EncodeToString(l[at][:len(want)/2]) != want {
			t.Fatalf("%x: the record %d isn't %s", l, at, want)
		}
	}
	if got := hex.EncodeToString(l[6][1126-16:]); got != hex.EncodeToString(y.Sig[67][:]) {
		t.Errorf("the last sum: %s", got)
	}
}

// P16.1: records in any order, each kind more than once; those of a snapshot are told as those behind it.
func TestOpen(t *testing.T) {
	m := none()
	m.boot, m.index = 258, 65538
	m.reserve = &api.Key{Epoch: 65536, Seq: 63}
	m.floors[3], m.floors[0] = api.Key{Epoch: 1, Seq: 1, Metric: 1}, api.Key{Metric: 15}
	for _, x := range []renew.Signed{some(2, 65535), some(2, 65536), some(1, 9), some(7, 0)} {
		m.anchors[x.Record.Dest] = append(m.anchors[x.Record.Dest], x)
	}
	l := [][]byte{
		signed(some(2, 65535)), laid(4, 3, 0, 0, 9), laid(3, 1), laid(2, 0, 0, 0), laid(1, 1), signed(some(7, 0)),
		laid(4, 3, 0, 0, 8), laid(4, 0, 0, 0, 15), laid(4, 3, 0, 1, 15), laid(4, 3, 1, 0, 15), laid(4, 3, 1, 1, 1),
		laid(3, 2), laid(1, 2), laid(2, 0, 1, 0), laid(2, 1, 0, 0), laid(1, 257), signed(some(2, 65536)),
		signed(some(1, 9)), laid(2, 65536, 63, 0), laid(3, 65538),
	}
	for cut := range len(l) {
		s := device(t, 600)
		d, e := diary.Start(s, 7, l[:cut])
		errs(t, "Start", e, api.OK)
		for _, p := range l[cut:] {
			errs(t, "Append", d.Append(p), api.OK)
		}
		m.is(t, "a vow", opens(t, s))
		tells(t, "a snapshot", s, m.snapshot(), 9)
	}
}

// P16.1: a device that knows no boot.
func TestOpenOfNoBoot(t *testing.T) {
	s := having(t, 1, laid(3, 5))
	m := none()
	m.boot, m.index = 1, 5
	m.is(t, "a vow", opens(t, s))
	s = having(t, 2, laid(1, math.MaxUint64-1))
	m.boot, m.index = math.MaxUint64, 0
	m.is(t, "the last boot", opens(t, s))
	tells(t, "the last boot", s, m.snapshot(), 4)
}

// refuses holds Open to an error that comes of the records: nothing is done.
func refuses(t *testing.T, what string, s *slate.Slate, want api.Errno) {
	t.Helper()
	steps := s.Steps()
	if v, e := Open(s); v != nil || e != want || s.Steps() != steps {
		t.Fatalf("%s: Open: %v, %d, not %d, %d steps", what, v, e, want, s.Steps()-steps)
	}
}

// Errors: records that tell nothing of this.
func TestBroken(t *testing.T) {
	x, most := some(2, 5), uint64(math.MaxUint64)
	odd := some(2, 5)
	odd.Record.Dest = 8
	for _, l := range [][][]byte{
		{{}}, {{0}}, {{6}}, {{255}}, {laid(0, 1)}, {laid(6, 1)}, {laid(6, 1, 2, 3)}, {laid(255)},
		{laid(1)}, {laid(1, 0)}, {laid(1, 1)[:8]}, {laid(1, 1, 1)}, {append(laid(1, 1), 0)}, {laid(1, 3), laid(1, 3)}, {laid(1, 3), laid(1, 2)}, {laid(1, 1), laid(1, 0)},
		{laid(2)}, {laid(2, 1, 1)}, {laid(2, 1, 1, 0)[:24]}, {append(laid(2, 1, 1, 0), 0)}, {laid(2, 1, 1, 0, 0)},
		{laid(2, 1, 1, 1)}, {laid(2, 1, 1, 1<<32)}, {laid(2, 1, 1, most)}, {laid(2, 65537, 1, 0)}, {laid(2, 1, 64, 0)},
		{laid(2, 1<<32, 1, 0)}, {laid(2, 1<<32+1, 1, 0)}, {laid(2, 1, 1<<32, 0)}, {laid(2, 1<<63, 1, 0)}, {laid(2, most, 1, 0)}, {laid(2, 1, most, 0)},
		{laid(2, 1, 1, 0), laid(2, 1, 1, 0)}, {laid(2, 1, 1, 0), laid(2, 1, 0, 0)}, {laid(2, 1, 1, 0), laid(2, 0, 2, 0)}, {laid(2, 0, 0, 0), laid(2, 0, 0, 0)},
		{laid(3)}, {laid(3, 0)}, {laid(3, 65539)}, {laid(3, 1<<32+1)}, {laid(3, 1<<32)}, {laid(3, most)}, {laid(3, 1)[:8]}, {append(laid(3, 1), 0)},
		{laid(3, 3), laid(3, 3)}, {laid(3, 3), laid(3, 2)}, {laid(3, 3), laid(3, 0)},
		{laid(4)}, {laid(4, 1, 1, 1)}, {laid(4, 1, 1, 1, 1)[:32]}, {append(laid(4, 1, 1, 1, 1), 0)}, {laid(4, 1, 1, 1, 1, 1)},
		{laid(4, 8, 1, 1, 1)}, {laid(4, 1<<32, 1, 1, 1)}, {laid(4, 1<<32+1, 1, 1, 1)}, {laid(4, most, 1, 1, 1)}, {laid(4, 256, 1, 1, 1)},
		{laid(4, 1, 65537, 1, 1)}, {laid(4, 1, 1, 64, 1)}, {laid(4, 1, 1, 1, 16)}, {laid(4, 1, 1, 1, most)}, {laid(4, 1, 1<<32, 1, 1)}, {laid(4, 1, 1, 1<<32, 1)}, {laid(4, 1, 1, 1, 1<<32)},
		{laid(4, 1, 1, 1, 1), laid(4, 1, 1, 1, 1)}, {laid(4, 1, 1, 1, 1), laid(4, 1, 1, 1, 2)}, {laid(4, 1, 1, 1, 1), laid(4, 1, 1, 0, 0)}, {laid(4, 1, 1, 1, 1), laid(4, 1, 0, 2, 0)},
		{laid(5)}, {signed(x)[:1125]}, {append(signed(x), 0)}, {signed(odd)}, {signed(some(255, 5))}, {signed(some(2, 65537))}, {signed(some(2, math.MaxUint32))},
		{signed(x), signed(x)}, {signed(x), signed(some(2, 4))}, {signed(x), signed(some(2, 7))}, {signed(some(2, 65536)), signed(some(2, 65537))}, {signed(some(2, 65536)), signed(some(2, 0))},
	} {
		for _, gen := range []uint32{1, 2} {
			refuses(t, hex.EncodeToString(l[len(l)-1]), having(t, gen, l...), api.ErrBroken)
		}
		refuses(t, "among others", having(t, 1, slices.Concat([][]byte{laid(4, 0, 0, 0, 0)}, l, [][]byte{laid(4, 7, 0, 0, 0)})...), api.ErrBroken)
	}
}

// Errors: a boot behind the last one, and a broken record beside it.
func TestSpentBoots(t *testing.T) {
	refuses(t, "the last boot", having(t, 1, laid(1, math.MaxUint64)), api.ErrSpent)
	refuses(t, "the last boot", having(t, 1, laid(1, math.MaxUint64), laid(3, 7)), api.ErrSpent)
	refuses(t, "a broken record, too", having(t, 1, laid(1, math.MaxUint64), laid(3, 0)), api.ErrBroken)
}

// Errors: Load's and Start's come ahead of those of the records.
func TestErrorsOfTheDiary(t *testing.T) {
	if v, e := Open(nil); v != nil || e != api.ErrNil {
		t.Errorf("nil: %v, %d", v, e)
	}
	refuses(t, "no sectors", &slate.Slate{}, api.ErrArg)
	refuses(t, "one sector", device(t, 1), api.ErrArg)
	refuses(t, "no generation is left", having(t, math.MaxUint32, laid(1, 1)), api.ErrArg)
	refuses(t, "and a record is broken", having(t, math.MaxUint32, laid(3, 0)), api.ErrArg)
	refuses(t, "and the boots are spent", having(t, math.MaxUint32, laid(1, math.MaxUint64)), api.ErrArg)
	s := having(t, 1, laid(3, 0))
	s.Write(0, slate.Sector{3: 2, 63: 2})
	refuses(t, "a broken half", s, api.ErrBroken)
	s = having(t, 1, laid(1, 1))
	s.Fuse(0)
	s.Flush()
	refuses(t, "without power", s, api.ErrDown)
	refuses(t, "no power for a snapshot", blown(t, having(t, 1, laid(1, 1))), api.ErrDown)
	for _, sectors := range []int{2, 3} {
		if v, e := Open(device(t, sectors)); v != nil || e != api.ErrFull {
			t.Errorf("%d sectors: %v, %d", sectors, v, e)
		}
	}
	opens(t, device(t, 4))
}

// blown is a device whose power goes with the next step.
func blown(t *testing.T, s *slate.Slate) *slate.Slate {
	t.Helper()
	errs(t, "Fuse", s.Fuse(0), api.OK)
	return s
}

// Errors: a snapshot that is cut off at any of its steps is no vow.
func TestOpenCutOff(t *testing.T) {
	for fuse := range 30 {
		s := having(t, 1, laid(1, 6), laid(3, 5), signed(some(1, 2)))
		s.Fuse(fuse)
		v, e := Open(s)
		if fuse < 27 && (v != nil || e != api.ErrDown) || fuse >= 27 && (v.Boot() != 7 || e != api.OK) {
			t.Fatalf("behind %d steps: %v, %d", fuse, v, e)
		}
	}
}
