package diary

import (
	"fingerpost/api"
	"fingerpost/slate"
)

// half is what one half of a device tells.
type half struct {
	gen  uint32 // 0, if it tells none
	sure bool
	recs [][]byte
}

// Load is what a device tells: the records, and which generation comes next.
func Load(s *slate.Slate) ([][]byte, uint32, api.Errno) {
	if e := check(s); e != api.OK {
		return nil, 0, e
	}
	even, e := read(s, 0)
	if e != api.OK {
		return nil, 0, e
	}
	odd, e := read(s, 1)
	if e != api.OK {
		return nil, 0, e
	}
	switch {
	case odd.sure && !(even.sure && even.gen > odd.gen):
		return odd.recs, behind(odd, even), api.OK
	case even.sure:
		return even.recs, behind(even, odd), api.OK
	case even.gen != 0:
		// The first generation is an odd one: no even one begins ahead of a sure one.
		return nil, 0, api.ErrBroken
	case odd.gen != 0:
		return nil, odd.gen + 2, api.OK
	}
	return nil, 1, api.OK
}

// behind is the generation that comes next: of the other half than the sure one, and above what was begun there.
func behind(sure, other half) uint32 {
	if other.gen > sure.gen {
		return other.gen + 2
	}
	return sure.gen + 1
}

// read is what the half of even generations tells, or that of odd ones.
func read(s *slate.Slate, parity uint32) (half, api.Errno) {
	first, e := s.Read(begin(s, parity))
	if e != api.OK {
		return half{}, e
	}
	gen := told(first)
	if gen == 0 || gen%2 != parity {
		return half{}, api.OK
	}
	h := half{gen: gen}
	var rec []byte
	underWay := false
sectors:
	for place := range size(s) {
		x, e := s.Read(begin(s, parity) + place)
		if e != api.OK {
			return half{}, e
		}
		switch what(x, gen, place, underWay) {
		case strange:
			break sectors
		case wrong:
			return half{}, api.ErrBroken
		case part:
			rec, underWay = append(rec, data(x)...), true
		case end:
			h.recs = append(h.recs, append(rec, data(x)...))
			rec, underWay = nil, false
		case marker:
			if h.sure {
				return half{}, api.ErrBroken
			}
			h.sure, rec, underWay = true, nil, false
		}
	}
	return h, api.OK
}
