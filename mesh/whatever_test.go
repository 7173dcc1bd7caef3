package mesh

import (
	"fingerpost/api"
	"fingerpost/toll"
	"testing"
)

// step lets something happen.
func (w *world) step() {
	w.Helper()
	r, c := w.r, w.c
	id := r.Intn(c.Nodes)
	switch at := r.Intn(150); {
	case at == 0:
		l := c.Links[r.Intn(len(c.Links))]
		is(w.T, "Link", w.Link(l[0], l[1], r.Intn(3) > 0), api.OK)
	case !w.Honest(id):
		for range 1 + r.Intn(4) {
			w.bad.act(id, (id+1+r.Intn(c.Nodes-1))%c.Nodes)
		}
	case w.Router(id) == nil:
		w.start(id)
	case w.Router(id).Dead() != api.OK || at == 1:
		is(w.T, "Crash", w.Crash(id, r.Intn(30), r.Intn(65)), api.OK)
	case at == 2:
		is(w.T, "Fuse", w.Fuse(id, r.Intn(90)), api.OK)
	default:
		w.tick(id)
	}
	for range r.Intn(12) {
		w.fate()
	}
	for w.Len() > 200 {
		w.arrive(0)
	}
	w.sound()
}

// fate lets something happen to a frame.
func (w *world) fate() {
	w.Helper()
	if w.Len() == 0 {
		return
	}
	at := w.r.Intn(min(w.Len(), 8))
	switch w.r.Intn(12) {
	case 0:
		is(w.T, "Lose", w.Lose(at), api.OK)
	case 1:
		is(w.T, "Twice", w.Twice(at), api.OK)
	default:
		w.arrive(at)
	}
}

// round lets all honest nodes tick, bad ones do much, and all arrive.
func (w *world) round() {
	w.Helper()
	for id := range w.c.Nodes {
		for range 8 {
			if !w.Honest(id) {
				w.bad.act(id, (id+1+w.r.Intn(w.c.Nodes-1))%w.c.Nodes)
			}
		}
		if r := w.Router(id); r != nil && r.Dead() == api.OK {
			w.tick(id)
		}
	}
	for range w.Len() {
		w.arrive(0)
	}
	w.sound()
}

// stages are networks of some shapes, and rules.
func stages() map[string]Config {
	slow := quick()
	slow.Spring.Height, slow.Rotate = 3, 7
	wide, pieces, poor, eager := slow, slow, slow, slow
	wide.Spring.Width = 8
	pieces.Most = 100
	poor.Peer.Rates = toll.Rates{Frames: 20, FramesTick: 5, Blocks: 3000, BlocksTick: 600}
	eager.Settle.Settle, eager.Rib.Hold, eager.Peer.Dead, eager.Rib.Life, eager.Rotate = 0, 0, 3, 12, 3
	bridge := [][2]int{{0, 1}, {1, 2}, {2, 3}}
	ring := [][2]int{{0, 1}, {1, 2}, {2, 3}, {3, 0}, {0, 2}}
	both := [][2]int{{0, 1}, {1, 2}, {2, 3}, {3, 0}, {3, 1}, {2, 4}, {4, 1}, {0, 4}}
	return map[string]Config{
		"a bridge":  {Rules: slow, Nodes: 4, Bad: []int{1}, Links: bridge, Sectors: 4096},
		"a ring":    {Rules: slow, Nodes: 4, Bad: []int{2}, Links: ring, Sectors: 4096},
		"honest":    {Rules: eager, Nodes: 4, Links: ring, Sectors: 4096},
		"two":       {Rules: wide, Nodes: 5, Bad: []int{1, 4}, Links: both, Sectors: 4096},
		"in pieces": {Rules: pieces, Nodes: 4, Bad: []int{1}, Links: ring, Sectors: 4096},
		"poor":      {Rules: poor, Nodes: 4, Bad: []int{3}, Links: ring, Sectors: 4096},
		"eager":     {Rules: eager, Nodes: 4, Bad: []int{0}, Links: ring, Sectors: 4096},
	}
}

// P27.4, P27.5, W2, W3, W4: whatever bad nodes send, whatever is lost, doubled, cut, whoever crashes: no loops, nothing is taken that wasn't shown, nobody goes back, and who refuses a frame tells what it told.
func TestWhateverHappens(t *testing.T) {
	refused, tricks := map[api.Errno]int{}, map[string]int{}
	hops, led := 0, 0
	for what, c := range stages() {
		t.Run(what, func(t *testing.T) {
			for seed := range int64(2) {
				w := newWorld(t, seed, c)
				for range 30 {
					w.round()
				}
				for range 1200 {
					w.step()
				}
				hops, led = hops+w.hops, led+w.led
				for e, n := range w.refused {
					refused[e] += n
				}
				for trick, n := range w.bad.tricks {
					tricks[trick] += n
				}
			}
		})
	}
	// None of this means anything, unless there were routes, also by bad nodes, and everything was tried.
	if hops < 10000 || led < 500 {
		t.Errorf("%d hops, %d of them by bad nodes to honest ones", hops, led)
	}
	for _, e := range []api.Errno{api.ErrState, api.ErrDown, api.ErrNone, api.ErrLimit, api.ErrShort, api.ErrForm, api.ErrProof, api.ErrSign, api.ErrMac, api.ErrReplay, api.ErrToll, api.ErrOld, api.ErrHold, api.ErrPeer} {
		if refused[e] == 0 {
			t.Errorf("nothing was refused by %d: %v", e, refused)
		}
	}
	for _, trick := range []string{"issued", "passed", "nearer", "other", "stolen", "made up"} {
		if tricks[trick] < 50 {
			t.Errorf("%s: %d times", trick, tricks[trick])
		}
	}
}

// W3: wherever the power goes, and wherever a sector is torn, nobody goes back behind what it told.
func TestPowerGoesAnywhere(t *testing.T) {
	rules := quick()
	rules.Spring.Height, rules.Rotate = 0, 3
	c := Config{Rules: rules, Nodes: 3, Links: [][2]int{{0, 1}, {1, 2}}, Sectors: 2000}
	steps := 0
	// Of three steps one, as the routers' own tests take each: by odd and by even ones, as writes and flushes take turns.
	for fuse := 0; fuse < 300; fuse += 3 {
		w := newWorld(t, int64(fuse), c)
		is(t, "Fuse", w.Fuse(1, fuse), api.OK)
		fuses := []int{fuse * 5 % 97, -1, -1}
		for range 20 {
			w.round()
			if w.Router(1).Dead() != api.OK {
				is(t, "Crash", w.Crash(1, fuse*7%31, fuse*13%65), api.OK)
				is(t, "Start", w.Start(1), api.OK)
				// The next boot has a fuse, too.
				is(t, "Fuse", w.Fuse(1, fuses[0]), api.OK)
				fuses = fuses[1:]
			}
		}
		if w.own[1].Epoch < 3 || w.boots[1] < 2 || !w.low[1][0] || !w.low[1][2] {
			t.Fatalf("fuse %d: boot %d, the own sequence %v", fuse, w.boots[1], w.own[1])
		}
		steps = max(steps, w.nodes[1].device.Steps())
	}
	if steps < 300 {
		t.Errorf("%d steps", steps)
	}
}
