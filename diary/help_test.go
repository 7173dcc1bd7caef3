package diary

import (
	"bytes"
	"encoding/binary"
	"fingerpost/api"
	"fingerpost/slate"
	"slices"
	"testing"
)

// text is so many bytes, unlike their neighbours.
func text(size int) []byte {
	b := make([]byte, size)
	for at := range b {
		b[at] = byte(at%251 + 1)
	}
	return b
}

func recs(l ...string) [][]byte {
	var all [][]byte
	for _, x := range l {
		all = append(all, []byte(x))
	}
	return all
}

func alike(a, b [][]byte) bool {
	return slices.EqualFunc(a, b, bytes.Equal)
}

func device(t *testing.T, sectors int) *slate.Slate {
	t.Helper()
	s, e := slate.New(sectors)
	if e != api.OK {
		t.Fatalf("slate.New(%d): %d", sectors, e)
	}
	return s
}

// one is a sector as the chapter's words tell it.
func one(gen uint32, place int, flags byte, data string) slate.Sector {
	b := binary.BigEndian.AppendUint32(nil, gen)
	b = binary.BigEndian.AppendUint16(b, uint16(place))
	b = append(b, flags, byte(len(data)))
	b = append(b, data...)
	b = append(b, make([]byte, 58-len(b))...)
	b = binary.BigEndian.AppendUint16(b, summed(b))
	return slate.Sector(binary.BigEndian.AppendUint32(b, gen))
}

func summed(b []byte) uint16 {
	n := 0
	for _, x := range b[:58] {
		n += int(x)
	}
	return uint16(n % 65536)
}

// resum is a sector with a sum that is right.
func resum(x slate.Sector) slate.Sector {
	binary.BigEndian.PutUint16(x[58:], summed(x[:]))
	return x
}

// many are a record's sectors, from a place on; more is a flag of the last one.
func many(gen uint32, place int, more byte, p []byte) []slate.Sector {
	var l []slate.Sector
	flags := byte(1)
	for len(p) > 50 {
		l = append(l, one(gen, place+len(l), flags, string(p[:50])))
		p, flags = p[50:], 0
	}
	return append(l, one(gen, place+len(l), flags|2|more, string(p)))
}

// written are the sectors of a snapshot, the marker and what stands behind it.
func written(gen uint32, snapshot, behind [][]byte) []slate.Sector {
	var l []slate.Sector
	for _, p := range snapshot {
		l = append(l, many(gen, len(l), 0, p)...)
	}
	l = append(l, many(gen, len(l), 4, nil)...)
	for _, p := range behind {
		l = append(l, many(gen, len(l), 0, p)...)
	}
	return l
}

// lay writes sectors as they are, and lets them last.
func lay(t *testing.T, s *slate.Slate, at int, l ...slate.Sector) {
	t.Helper()
	for n, x := range l {
		if e := s.Write(at+n, x); e != api.OK {
			t.Fatalf("Write(%d): %d", at+n, e)
		}
	}
	s.Flush()
}

// all are a device's sectors.
func all(t *testing.T, s *slate.Slate) []slate.Sector {
	t.Helper()
	l := make([]slate.Sector, s.Sectors())
	for at := range l {
		x, e := s.Read(at)
		if e != api.OK {
			t.Fatalf("Read(%d): %d", at, e)
		}
		l[at] = x
	}
	return l
}

// loads holds Load to an answer; it must not do a step.
func loads(t *testing.T, what string, s *slate.Slate, want [][]byte, next uint32, err api.Errno) {
	t.Helper()
	steps, loose := s.Steps(), s.Loose()
	l, gen, e := Load(s)
	if !alike(l, want) || gen != next || e != err {
		t.Fatalf("%s: Load: %q, %d, %d, not %q, %d, %d", what, l, gen, e, want, next, err)
	}
	if s.Steps() != steps || s.Loose() != loose {
		t.Fatalf("%s: Load did %d steps", what, s.Steps()-steps)
	}
}

func starts(t *testing.T, s *slate.Slate, gen uint32, l [][]byte) *Diary {
	t.Helper()
	d, e := Start(s, gen, l)
	if d == nil || e != api.OK {
		t.Fatalf("Start(%d, %d records): %v, %d", gen, len(l), d, e)
	}
	return d
}

// errs holds a call's error to what it must be.
func errs(t *testing.T, what string, got, want api.Errno) {
	t.Helper()
	if got != want {
		t.Fatalf("%s: %d, not %d", what, got, want)
	}
}

// modelHalf is what a half tells by the chapter's words.
type modelHalf struct {
	gen          uint32
	sure, broken bool
	recs         [][]byte
}

func modelOf(l []slate.Sector, parity uint32) modelHalf {
	ends := func(x slate.Sector) (uint32, bool) {
		a, b := binary.BigEndian.Uint32(x[:]), binary.BigEndian.Uint32(x[60:])
		return a, a == b
	}
	gen, ok := ends(l[0])
	if !ok || gen == 0 || gen%2 != parity {
		return modelHalf{}
	}
	h := modelHalf{gen: gen}
	began := -1 // the place of the first sector of the record that is under way
	for place, x := range l {
		if n, ok := ends(x); !ok || n != gen {
			break
		}
		if binary.BigEndian.Uint16(x[58:]) != summed(x[:]) || int(binary.BigEndian.Uint16(x[4:])) != place || x[7] > 50 {
			h.broken = true
			break
		}
		if (x[6]&1 == 1) != (began < 0) {
			h.broken = true
			break
		}
		if began < 0 {
			began = place
		}
		if x[6]&2 == 0 {
			continue
		}
		var p []byte
		for _, y := range l[began : place+1] {
			p = append(p, y[8:8+y[7]]...)
		}
		began = -1
		if x[6]&4 == 0 {
			h.recs = append(h.recs, p)
		} else if h.sure {
			h.broken = true
			break
		} else {
			h.sure = true
		}
	}
	return h
}

// modelLoad is what a device of such sectors tells by the chapter's words.
func modelLoad(l []slate.Sector) ([][]byte, uint32, api.Errno) {
	n := len(l) / 2
	h := []modelHalf{modelOf(l[:n], 0), modelOf(l[n:2*n], 1)}
	if h[0].broken || h[1].broken {
		return nil, 0, api.ErrBroken
	}
	if !h[0].sure && !h[1].sure {
		if h[0].gen != 0 {
			return nil, 0, api.ErrBroken
		}
		if h[1].gen != 0 {
			return nil, h[1].gen + 2, api.OK
		}
		return nil, 1, api.OK
	}
	best := 0
	if !h[0].sure || h[1].sure && h[1].gen > h[0].gen {
		best = 1
	}
	if other := h[1-best]; other.gen > h[best].gen {
		return h[best].recs, other.gen + 2, api.OK
	}
	return h[best].recs, h[best].gen + 1, api.OK
}
