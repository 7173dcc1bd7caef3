package slate

import (
	"fingerpost/api"
	"testing"
)

// text is a sector that begins so.
func text(t string) Sector {
	var x Sector
	copy(x[:], t)
	return x
}

// full is a sector of one byte, over and over.
func full(b byte) Sector {
	var x Sector
	for at := range x {
		x[at] = b
	}
	return x
}

// torn is a sector of which the first so many bytes are of another one.
func torn(was, to Sector, bytes int) Sector {
	for at := range bytes {
		was[at] = to[at]
	}
	return was
}

func device(t *testing.T, sectors int) *Slate {
	t.Helper()
	s, e := New(sectors)
	if s == nil || e != api.OK {
		t.Fatalf("New(%d): %v, %d", sectors, s, e)
	}
	return s
}

// errs holds a call's error to what it must be.
func errs(t *testing.T, what string, got, want api.Errno) {
	t.Helper()
	if got != want {
		t.Fatalf("%s: %d, not %d", what, got, want)
	}
}

// reads holds all sectors to what they must be.
func reads(t *testing.T, s *Slate, want ...Sector) {
	t.Helper()
	for at, x := range want {
		if got, e := s.Read(at); got != x || e != api.OK {
			t.Fatalf("Read(%d): %x, %d, not %x", at, got, e, x)
		}
	}
}

// tells holds a device to its numbers.
func tells(t *testing.T, s *Slate, sectors, loose, steps int, down bool) {
	t.Helper()
	if s.Sectors() != sectors || s.Loose() != loose || s.Steps() != steps || s.Down() != down {
		t.Fatalf("%d sectors, %d loose, %d steps, down %v, not %d, %d, %d, %v", s.Sectors(), s.Loose(), s.Steps(), s.Down(), sectors, loose, steps, down)
	}
}

// model is a device as the chapter's words tell it: each sector's writes since it lasted stand in one list of all.
type model struct {
	lasts   map[int]Sector
	sectors int
	waits   []write
	steps   int
	fused   bool
	fuse    int
	down    bool
}

func (m *model) step() api.Errno {
	if m.fused && m.fuse == 0 {
		m.down = true
		return api.ErrDown
	}
	m.fuse--
	m.steps++
	return api.OK
}

func (m *model) write(at int, to Sector) api.Errno {
	if m.down {
		return api.ErrDown
	}
	if at < 0 || at >= m.sectors {
		return api.ErrArg
	}
	e := m.step()
	if e == api.OK {
		m.waits = append(m.waits, write{at, to})
	}
	return e
}

func (m *model) flush() api.Errno {
	if m.down {
		return api.ErrDown
	}
	e := m.step()
	if e == api.OK {
		m.last(len(m.waits))
	}
	return e
}

// last lets so many writes last.
func (m *model) last(many int) {
	for range many {
		m.lasts[m.waits[0].at] = m.waits[0].to
		m.waits = m.waits[1:]
	}
}

func (m *model) read(at int) (Sector, api.Errno) {
	if m.down {
		return Sector{}, api.ErrDown
	}
	if at < 0 || at >= m.sectors {
		return Sector{}, api.ErrArg
	}
	x := m.lasts[at]
	for _, w := range m.waits {
		if w.at == at {
			x = w.to
		}
	}
	return x, api.OK
}

func (m *model) setFuse(n int) api.Errno {
	if m.down {
		return api.ErrDown
	}
	m.fused, m.fuse = n >= 0, n
	return api.OK
}

func (m *model) crash(writes, bytes int) {
	for len(m.waits) > 0 && writes > 0 {
		m.last(1)
		writes--
	}
	if len(m.waits) > 0 {
		w := m.waits[0]
		x := m.lasts[w.at]
		for at := 0; at < 64 && at < bytes; at++ {
			x[at] = w.to[at]
		}
		m.lasts[w.at] = x
	}
	m.waits, m.fused, m.down = nil, false, false
}
