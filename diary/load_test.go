package diary

import (
	"bytes"
	"encoding/binary"
	"fingerpost/api"
	"fingerpost/slate"
	"math/rand"
	"testing"
)

// P15.1, Errors
func TestWrongLoads(t *testing.T) {
	loads(t, "nil", nil, nil, 0, api.ErrNil)
	loads(t, "no sectors", &slate.Slate{}, nil, 0, api.ErrArg)
	loads(t, "one sector", device(t, 1), nil, 0, api.ErrArg)
	for _, n := range []int{1, 2, 20} {
		s := device(t, n)
		lay(t, s, 0, one(2, 0, 0, ""))
		s.Fuse(0)
		s.Flush()
		want := api.ErrDown
		if n == 1 {
			want = api.ErrArg
		}
		loads(t, "without power", s, nil, 0, want)
	}
	for _, n := range []int{2, 3, 4, 4095, 4096} {
		loads(t, "an empty device", device(t, n), nil, 1, api.OK)
	}
}

// side is what one half may hold: a generation, sure or not; 0 is none.
type side struct {
	gen  uint32
	sure bool
}

func (x side) sectors() []slate.Sector {
	switch {
	case x.gen == 0:
		return nil
	case x.sure:
		return written(x.gen, recs("snapshot"), recs(string(rune('a'+x.gen%26))))
	}
	return many(x.gen, 0, 0, []byte("unsure"))
}

func (x side) recs() [][]byte {
	return recs("snapshot", string(rune('a'+x.gen%26)))
}

// P15.1, Errors: the sure half of the greater generation, and the next one.
func TestNextGeneration(t *testing.T) {
	no, most := side{}, uint32(1<<32-1)
	for _, x := range []struct {
		even, odd side
		told      side
		next      uint32
		want      api.Errno
	}{
		{no, no, no, 1, api.OK},
		{no, side{1, false}, no, 3, api.OK},
		{no, side{3, false}, no, 5, api.OK},
		{no, side{most - 2, false}, no, most, api.OK},
		{no, side{most, false}, no, 1, api.OK},
		{side{2, false}, no, no, 0, api.ErrBroken},
		{side{2, false}, side{1, false}, no, 0, api.ErrBroken},
		{side{2, false}, side{3, false}, no, 0, api.ErrBroken},
		{no, side{1, true}, side{1, true}, 2, api.OK},
		{no, side{7, true}, side{7, true}, 8, api.OK},
		{no, side{most, true}, side{most, true}, 0, api.OK},
		{side{2, true}, no, side{2, true}, 3, api.OK},
		{side{most - 1, true}, no, side{most - 1, true}, most, api.OK},
		{side{4, true}, side{5, true}, side{5, true}, 6, api.OK},
		{side{2, true}, side{5, true}, side{5, true}, 6, api.OK},
		{side{6, true}, side{5, true}, side{6, true}, 7, api.OK},
		{side{8, true}, side{5, true}, side{8, true}, 9, api.OK},
		{side{4, false}, side{5, true}, side{5, true}, 6, api.OK},
		{side{6, false}, side{5, true}, side{5, true}, 8, api.OK},
		{side{10, false}, side{5, true}, side{5, true}, 12, api.OK},
		{side{most - 1, false}, side{5, true}, side{5, true}, 0, api.OK},
		{side{6, true}, side{5, false}, side{6, true}, 7, api.OK},
		{side{6, true}, side{7, false}, side{6, true}, 9, api.OK},
		{side{6, true}, side{most - 2, false}, side{6, true}, most, api.OK},
		{side{6, true}, side{most, false}, side{6, true}, 1, api.OK},
		{side{2, true}, side{1 << 31, true}, side{2, true}, 3, api.OK},
		{side{1<<31 + 2, true}, side{1<<31 - 1, true}, side{1<<31 + 2, true}, 1<<31 + 3, api.OK},
		// A generation of the other half is none of this one.
		{side{1, true}, no, no, 1, api.OK},
		{side{3, false}, no, no, 1, api.OK},
		{no, side{2, true}, no, 1, api.OK},
		{no, side{4, false}, no, 1, api.OK},
		{side{9, true}, side{1, true}, side{1, true}, 2, api.OK},
		{side{2, true}, side{8, false}, side{2, true}, 3, api.OK},
	} {
		for _, sectors := range []int{8, 9, 100} {
			s := device(t, sectors)
			lay(t, s, 0, x.even.sectors()...)
			lay(t, s, sectors/2, x.odd.sectors()...)
			var want [][]byte
			if x.told != no {
				want = x.told.recs()
			}
			loads(t, "two halves", s, want, x.next, x.want)
		}
	}
}

// P15.1: a half is gone through up to a sector that hasn't its number at both ends: what stands behind that doesn't count.
func TestWhereAHalfEnds(t *testing.T) {
	whole := written(5, recs("a"), recs("b", string(text(120)), "c"))
	told := append(recs("a", "b"), text(120), []byte("c"))
	full := func(at int, turn func(x *slate.Sector)) *slate.Slate {
		s := device(t, 14)
		l := append([]slate.Sector(nil), whole...)
		turn(&l[at])
		lay(t, s, 7, l...)
		return s
	}
	turns := map[string]func(x *slate.Sector){
		"zeros":         func(x *slate.Sector) { *x = slate.Sector{} },
		"another one":   func(x *slate.Sector) { *x = one(3, 1, 3, "x") },
		"a later one":   func(x *slate.Sector) { *x = one(7, 9, 0, "x") },
		"another start": func(x *slate.Sector) { x[0] = 1 },
		"another end":   func(x *slate.Sector) { x[63] ^= 2 },
		"a torn end":    func(x *slate.Sector) { x[60] = 255 },
		"no sum, torn":  func(x *slate.Sector) { x[58]++; x[62]++ },
	}
	for what, turn := range turns {
		// A whole sector of another generation would tell that one.
		if what != "another one" && what != "a later one" {
			loads(t, what+" at first", full(0, turn), nil, 1, api.OK)
		}
		loads(t, what+" in the marker", full(1, turn), nil, 7, api.OK)
		loads(t, what+" behind the marker", full(2, turn), told[:1], 6, api.OK)
		for at := 3; at < 6; at++ {
			loads(t, what+" in a long record", full(at, turn), told[:2], 6, api.OK)
		}
		loads(t, what+" in the last one", full(6, turn), told[:3], 6, api.OK)
	}
	loads(t, "the half's end", full(6, func(x *slate.Sector) {}), told, 6, api.OK)
	loads(t, "the half's end, in a record", full(6, func(x *slate.Sector) { *x = one(5, 6, 1, "c") }), told[:3], 6, api.OK)

	// A half of even generations ends ahead of the other one.
	s := device(t, 8)
	lay(t, s, 0, written(2, recs("a", "b", "c"), nil)...)
	lay(t, s, 4, one(2, 4, 3, "d"))
	loads(t, "the other half", s, recs("a", "b", "c"), 3, api.OK)
}

// P15.1, Errors: each thing by which a half is broken, in one of two, sure or not.
func TestBroken(t *testing.T) {
	// Of the places 0 to 6: a, a long record's two, the marker, b, a long record's two.
	whole := written(4, recs("a", string(text(70))), recs("b", string(text(71))))
	is := func(what string, at int, x slate.Sector) {
		t.Helper()
		for _, gen := range []uint32{4, 5} {
			for _, first := range []uint32{0, gen - 1, gen + 1} {
				s := device(t, 20)
				for place, y := range whole {
					if place == at {
						y = x
					}
					binary.BigEndian.PutUint32(y[:], gen)
					binary.BigEndian.PutUint32(y[60:], gen)
					right := summed(x[:]) == binary.BigEndian.Uint16(x[58:])
					if right || place != at {
						y = resum(y)
					}
					lay(t, s, int(gen%2)*10+place, y)
				}
				if first != 0 {
					lay(t, s, int(first%2)*10, written(first, recs("whole"), nil)...)
				}
				loads(t, what, s, nil, 0, api.ErrBroken)
			}
		}
	}
	for at := range whole {
		for _, bit := range []int{4, 5, 6, 7, 8, 20, 57, 58, 59} {
			x := whole[at]
			x[bit] ^= 64
			is("another sum", at, x)
		}
		for _, place := range []int{0, 1, 2, 3, 4, 5, 6, 256, 256 + at, 65535} {
			x := whole[at]
			if place != at {
				binary.BigEndian.PutUint16(x[4:], uint16(place))
				is("another place", at, resum(x))
			}
		}
		for _, size := range []byte{51, 52, 56, 128, 255} {
			x := whole[at]
			x[7] = size
			is("too much data", at, resum(x))
		}
		x := whole[at]
		x[6] ^= 1
		is("a flag 1 too much, or none", at, resum(x))
	}
	for _, at := range []int{0, 4} {
		is("the marker twice", at, one(4, at, 7, ""))
		is("the marker twice", at, one(4, at, 15, "data"))
		is("a record under way", at, one(4, at, 1, ""))
	}
	is("the marker twice, of two sectors", 6, one(4, 6, 6, ""))
	for _, at := range []int{1, 5} {
		is("none under way", at, one(4, at, 3, ""))
	}
}

// P15.1: data that a marker has don't count, however many sectors it takes; a flag 4 counts in a record's last sector alone, other flags never.
func TestMarkers(t *testing.T) {
	for _, p := range [][]byte{nil, []byte("a"), text(50), text(51), text(200)} {
		s := device(t, 40)
		l := many(2, 0, 0, []byte("a"))
		l = append(l, many(2, 1, 4, p)...)
		l = append(l, many(2, len(l), 0, []byte("b"))...)
		lay(t, s, 0, l...)
		loads(t, "a marker with data", s, recs("a", "b"), 3, api.OK)
	}
	s := device(t, 40)
	l := []slate.Sector{
		one(2, 0, 1|4, "a"), one(2, 1, 4|8, "b"), one(2, 2, 2|128, "c"),
		one(2, 3, 7|16|64, "?"), one(2, 4, 3|248, "d"), one(2, 5, 1|4, "e"),
	}
	lay(t, s, 0, l...)
	loads(t, "flags", s, recs("abc", "d"), 3, api.OK)
	s = device(t, 40)
	lay(t, s, 20, one(1, 0, 1|4, "a"), one(1, 1, 4, ""), one(1, 2, 4, ""))
	loads(t, "a marker that doesn't end", s, nil, 3, api.OK)
}

// P15.1: a record's data are what its sectors have, even if one is not full, or all are more than Append takes; bytes behind them may be any.
func TestOddRecords(t *testing.T) {
	s := device(t, 200)
	x := one(1, 2, 0, "")
	for at := 8; at < 58; at++ {
		x[at] = 9
	}
	l := []slate.Sector{one(1, 0, 7, ""), one(1, 1, 1, "ab"), resum(x), one(1, 3, 2, "c")}
	lay(t, s, 100, append(l, many(1, 4, 0, text(4000))...)...)
	loads(t, "odd records", s, append(recs("abc"), text(4000)), 2, api.OK)
}

// P15.1: what waits in the device's queue is told, too.
func TestLoadOfTheQueue(t *testing.T) {
	s := device(t, 20)
	d := starts(t, s, 1, recs("a"))
	d.Append([]byte("b"))
	loads(t, "unflushed", s, recs("a", "b"), 2, api.OK)
	s.Crash(0, 0)
	loads(t, "lost", s, recs("a"), 2, api.OK)
}

// P15.1: any sectors, held against the model.
func TestAgainstModel(t *testing.T) {
	r, seen := rand.New(rand.NewSource(2)), map[api.Errno]int{}
	for range 40000 {
		n := 2 + r.Intn(24)
		s := device(t, n)
		for parity := range 2 {
			lay(t, s, parity*(n/2), anyHalf(r, uint32(parity), n/2)...)
		}
		want, next, e := modelLoad(all(t, s))
		loads(t, "any sectors", s, want, next, e)
		seen[e]++
		if len(want) > 1 {
			seen[-1]++
		}
	}
	for _, e := range []api.Errno{-1, api.OK, api.ErrBroken} {
		if seen[e] < 3000 {
			t.Errorf("%d came %d times", e, seen[e])
		}
	}
}

// anyHalf are the sectors of a half, in which a thing or two may be wrong.
func anyHalf(r *rand.Rand, parity uint32, size int) []slate.Sector {
	gen := uint32(r.Intn(4))*2 + parity
	if r.Intn(30) == 0 {
		gen++
	}
	var before, behind [][]byte
	for range r.Intn(4) {
		before = append(before, bytes.Repeat([]byte{byte(r.Intn(256))}, r.Intn(110)))
		behind = append(behind, bytes.Repeat([]byte{byte(r.Intn(256))}, r.Intn(110)))
	}
	l := written(gen, before, behind)
	l = l[:min(r.Intn(2*len(l)+1), len(l), size)]
	for range r.Intn(5) / 2 {
		if len(l) == 0 {
			break
		}
		x := &l[r.Intn(len(l))]
		switch r.Intn(6) {
		case 0:
			x[r.Intn(64)] = byte(r.Intn(256))
		case 1:
			x[6] = byte(r.Intn(16))
			*x = resum(*x)
		case 2:
			x[7] = byte(r.Intn(60))
			*x = resum(*x)
		case 3:
			x[4+r.Intn(2)]++
			*x = resum(*x)
		case 4:
			y := one(gen+2, r.Intn(size), byte(r.Intn(8)), "another")
			copy(x[:r.Intn(65)], y[:])
		case 5:
			y := l[r.Intn(len(l))]
			y[5] = x[5]
			*x = resum(y)
		}
	}
	return l
}
