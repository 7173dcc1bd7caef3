package peer

import (
	"bytes"
	"fingerpost/api"
	"fingerpost/frame"
	"fingerpost/toll"
	"math/rand"
	"slices"
	"testing"
)

// model is a table as the chapter's words tell it, with windows and tolls of its own.
type model struct {
	self  int
	r     Rules
	now   int
	count uint64
	ids   map[int]*one
}

type one struct {
	taken          map[[2]uint64]bool
	boot, top      uint64
	frames, blocks int
	since, cost    int   // from when on it is a neighbour, and what it cost from then on
	heard          []int // when it was
	live           bool
}

func (m *model) add(id int) {
	m.ids[id] = &one{taken: map[[2]uint64]bool{}, frames: m.r.Rates.Frames, blocks: m.r.Rates.Blocks, since: m.now}
}

func (m *model) admit(b []byte) (frame.Frame, api.Errno) {
	f, e := frame.Peek(b)
	n := m.ids[f.From]
	switch {
	case e != api.OK:
		return frame.Frame{}, e
	case n == nil || f.To != m.self:
		return frame.Frame{}, api.ErrPeer
	case n.frames == 0 || n.blocks < frame.Cost(len(f.Body)):
		return frame.Frame{}, api.ErrToll
	}
	n.frames--
	n.blocks -= frame.Cost(len(f.Body))
	n.cost += frame.Cost(len(f.Body))
	if s, _ := frame.Seal(keyOf(m.self, f.From), f); !bytes.Equal(s, b) {
		return frame.Frame{}, api.ErrMac
	}
	if n.taken[[2]uint64{f.Boot, f.Count}] || f.Boot < n.boot || f.Boot == n.boot && f.Count+uint64(m.r.Window) <= n.top {
		return frame.Frame{}, api.ErrReplay
	}
	if f.Boot > n.boot {
		n.boot, n.top = f.Boot, 0
	}
	n.top = max(n.top, f.Count)
	n.taken[[2]uint64{f.Boot, f.Count}] = true
	n.heard = append(n.heard, m.now)
	return f, api.OK
}

func (m *model) lately(n *one) bool {
	return len(n.heard) > 0 && m.now-slices.Max(n.heard) < m.r.Dead
}

func (m *model) hello(from int, heard uint8) (bool, api.Errno) {
	n := m.ids[from]
	if n == nil {
		return false, api.ErrPeer
	}
	was := n.live
	n.live = heard&(1<<m.self) != 0 && m.lately(n)
	return n.live && !was, api.OK
}

func (m *model) tick() []int {
	var gone []int
	m.now++
	for id := range 8 {
		n := m.ids[id]
		if n == nil {
			continue
		}
		n.frames = min(n.frames+m.r.Rates.FramesTick, m.r.Rates.Frames)
		n.blocks = min(n.blocks+m.r.Rates.BlocksTick, m.r.Rates.Blocks)
		if n.live && !m.lately(n) {
			n.live = false
			gone = append(gone, id)
		}
	}
	return gone
}

// holds holds a table to the model in all that it tells.
func (m *model) holds(t *testing.T, x *Table) {
	t.Helper()
	var ids, live []int
	var heard uint8
	for id := range 8 {
		n := m.ids[id]
		if n == nil {
			continue
		}
		ids = append(ids, id)
		if n.live {
			live = append(live, id)
		}
		if m.lately(n) {
			heard |= 1 << id
		}
		left(t, "model", x, id, n.frames, n.blocks)
	}
	tells(t, "model", x, heard, live...)
	if !slices.Equal(x.Ids(), ids) || x.Now() != int64(m.now) {
		t.Errorf("%v, %d, not %v, %d", x.Ids(), x.Now(), ids, m.now)
	}
}

// post are frames that may come, in any order, again and again: of neighbours and strangers, to self and others, some turned.
func post(r *rand.Rand, self int) []byte {
	f := frame.Frame{From: r.Intn(8), To: self, Boot: 1 + uint64(r.Intn(40)/39), Count: 1 + uint64(r.Intn(30)), Kind: 1 + r.Intn(4), Body: text(r.Intn(3) * r.Intn(90))}
	if r.Intn(12) == 0 {
		f.To = r.Intn(8)
	}
	key := keyOf(f.From, f.To)
	if r.Intn(12) == 0 {
		key = keyOf(r.Intn(8), self)
	}
	b, _ := frame.Seal(key, f)
	if r.Intn(12) == 0 && len(b) > 0 {
		b[r.Intn(len(b))] ^= 1 << r.Intn(8)
	}
	return b
}

// step does one thing to both.
func (m *model) step(t *testing.T, r *rand.Rand, x *Table) []byte {
	t.Helper()
	id := r.Intn(8)
	switch kind := r.Intn(20); {
	case kind == 0:
		want := api.OK
		if id == m.self {
			want = api.ErrArg
		} else if m.ids[id] != nil {
			want = api.ErrTwice
		} else {
			m.add(id)
		}
		is(t, "Add", x.Add(id, keyOf(m.self, id)), want)
	case kind < 3:
		if m.ids[id] == nil {
			b, e := x.Seal(id, frame.IsUpdate, nil)
			if len(b) != 0 || e != api.ErrPeer {
				t.Errorf("Seal(%d): %x, %d", id, b, e)
			}
			break
		}
		m.count++
		seal(t, x, id, frame.IsUpdate, text(r.Intn(50)), m.self, 7, m.count)
	case kind < 6:
		ticks(t, "Tick", x, m.tick()...)
	case kind < 9:
		heard := uint8(r.Intn(256))
		want, f := m.hello(id, heard)
		if up, e := x.Hello(id, frame.Hello{Heard: heard}); up != want || e != f {
			t.Errorf("Hello(%d, %b): %v, %d, not %v, %d", id, heard, up, e, want, f)
		}
	case kind == 9:
		m.check(t, r, x, id)
	default:
		b := post(r, m.self)
		want, f := m.admit(b)
		got, e := x.Admit(b)
		if !same(got, want) || e != f {
			t.Errorf("Admit of %x: %v, %d, not %v, %d", b, got, e, want, f)
		}
		if e == api.OK {
			return b
		}
	}
	return nil
}

// check holds blocks on a neighbour's toll, and settles them.
func (m *model) check(t *testing.T, r *rand.Rand, x *Table, id int) {
	t.Helper()
	n := m.ids[id]
	if n == nil {
		is(t, "Hold", x.Toll(id).Hold(1), api.ErrNil)
		return
	}
	many := r.Intn(n.blocks + 1)
	used := r.Intn(many + 1)
	is(t, "Hold", x.Toll(id).Hold(many), api.OK)
	is(t, "Settle", x.Toll(id).Settle(used), api.OK)
	n.blocks -= used
	n.cost += used
}

// P18.1 to P18.4: against the model; nothing is admitted twice; no neighbour costs more than Most.
func TestAgainstModel(t *testing.T) {
	r := rand.New(rand.NewSource(18))
	many := 0
	for range 150 {
		rates := toll.Rates{Frames: 1 + r.Intn(12), FramesTick: r.Intn(5), Blocks: 4 + r.Intn(90), BlocksTick: r.Intn(30)}
		m := &model{self: r.Intn(8), r: Rules{Dead: 1 + r.Intn(4), Window: 1 + r.Intn(12), Rates: rates}, ids: map[int]*one{}}
		x := made(t, m.self, 7, m.r)
		admitted := map[string]bool{}
		for range 400 {
			b := m.step(t, r, x)
			m.holds(t, x)
			if admitted[string(b)] {
				t.Errorf("admitted twice: %x", b)
			}
			if len(b) > 0 {
				admitted[string(b)] = true
			}
			if t.Failed() {
				return
			}
		}
		many += len(admitted)
		for id, n := range m.ids {
			if n.cost > toll.Most(rates, m.now-n.since) {
				t.Errorf("%d costs %d", id, n.cost)
			}
		}
	}
	if many < 3000 {
		t.Errorf("admitted: %d", many)
	}
}

// P18.4: whoever sends as much as it may, within any ticks, costs no more than Most, and as much as that.
func TestMostIsSpent(t *testing.T) {
	rates := toll.Rates{Frames: 1000, FramesTick: 1000, Blocks: 40, BlocksTick: 12}
	r := wide()
	r.Rates = rates
	x := with(t, 0, 1, r, 1)
	costs := []int{0}
	b := sealed(t, keyOf(0, 1), 1, 0, 1, 1, nil)
	for range 20 {
		cost := 0
		for range 50 {
			if _, e := x.Admit(b); e != api.ErrToll {
				cost += frame.Cost(0)
			}
		}
		costs = append(costs, cost)
		x.Tick()
	}
	for from := range costs {
		all := 0
		for to := from; to < len(costs); to++ {
			all += costs[to]
			if all > toll.Most(rates, to-from) {
				t.Errorf("within %d ticks: %d", to-from, all)
			}
		}
	}
	if costs[1] != 40 || costs[2] != 12 || costs[20] != 12 {
		t.Errorf("each tick: %v", costs)
	}
}
