package router

import (
	"bytes"
	"fingerpost/api"
	"fingerpost/fib"
	"fingerpost/frame"
	"fingerpost/piece"
	"fingerpost/rank"
	"fingerpost/slate"
	"maps"
	"math/rand"
	"testing"
)

// letter is a frame on its way.
type letter struct {
	from, to int
	text     []byte
}

// net are routers, and what they told.
type net struct {
	*testing.T
	rules   Rules
	setups  []Setup
	devices []*slate.Slate
	nodes   []*Router // nil: it doesn't run
	linked  [8][8]bool
	flight  []letter
	floors  [8]map[int]api.Key // the best that was told of each destination
	own     [8]api.Key         // the last own sequence that was told
	any     [8]bool
	signed  map[[2]int][]byte // the record that was told of each node's own epoch
	joiners map[[2]int]*piece.Joiner
	boots   [8]uint64
}

func newNet(t *testing.T, rules Rules, nodes, sectors int, links ...[2]int) *net {
	n := &net{T: t, rules: rules, signed: map[[2]int][]byte{}, joiners: map[[2]int]*piece.Joiner{}}
	for id := range nodes {
		var others []int
		for other := range nodes {
			if other != id {
				others = append(others, other)
			}
		}
		n.setups = append(n.setups, setupOf(rules, id, others...))
		n.devices = append(n.devices, device(t, sectors))
		n.nodes = append(n.nodes, nil)
		n.floors[id] = map[int]api.Key{}
		n.start(id)
	}
	for _, l := range links {
		n.link(l[0], l[1], true)
	}
	return n
}

func (n *net) link(a, b int, up bool) {
	n.linked[a][b], n.linked[b][a] = up, up
}

// start makes a node's router anew: it never goes back behind what it told. false: the power went in that.
func (n *net) start(id int) bool {
	n.Helper()
	r, e := New(n.setups[id], n.devices[id])
	if e == api.ErrDown {
		return false
	}
	is(n.T, "New", e, api.OK)
	if len(r.Fib()) != 0 || r.Boot() <= n.boots[id] {
		n.Fatalf("anew: hops %v, boot %d behind %d", r.Fib(), r.Boot(), n.boots[id])
	}
	n.nodes[id], n.boots[id] = r, r.Boot()
	n.behind(id)
	return true
}

// behind holds a node's floors to what it told.
func (n *net) behind(id int) {
	n.Helper()
	for dest, k := range n.floors[id] {
		if f, ok := n.nodes[id].Floor(dest); !ok || rank.Compare(f, k) < 0 {
			n.Fatalf("the floor of %d at %d: %v, %v; %v was told", dest, id, f, ok, k)
		}
	}
}

// crash lets a node's power go.
func (n *net) crash(id, writes, bytes int) {
	n.nodes[id] = nil
	is(n.T, "Crash", n.devices[id].Crash(writes, bytes), api.OK)
}

// tick lets a node's time go on; what sets out is on its way, if the two are linked. false: the node is dead.
func (n *net) tick(id int) bool {
	n.Helper()
	r := n.nodes[id]
	was, had := r.Own()
	outs, e := r.Tick()
	if e != api.OK {
		is(n.T, "Tick", e, api.ErrDown)
		return false
	}
	if k, ok := r.Own(); !ok || (k != was || !had) && n.any[id] && !rank.Newer(k, n.own[id]) {
		n.Fatalf("the own sequence %v of %d behind %v", k, id, n.own[id])
	}
	for _, o := range outs {
		n.tells(id, o)
		if n.linked[id][o.To] {
			n.flight = append(n.flight, letter{id, o.To, o.Bytes})
		}
	}
	n.own[id], n.any[id] = r.own.key, true
	n.behind(id)
	return true
}

// tells notes what a node told.
func (n *net) tells(id int, o Out) {
	n.Helper()
	f, e := frame.Peek(o.Bytes)
	is(n.T, "frame.Peek", e, api.OK)
	kind, text := f.Kind, f.Body
	if kind == frame.IsPiece {
		p, e := piece.Get(text)
		is(n.T, "piece.Get", e, api.OK)
		at := [2]int{id, o.To}
		if j := n.joiners[at]; j == nil || p.At == 0 && p.Id == 1 {
			n.joiners[at] = piece.New()
		}
		whole, done, _ := n.joiners[at].Take(p)
		if !done {
			return
		}
		kind, text = int(whole[0]), whole[1:]
	}
	switch kind {
	case frame.IsUpdate:
		u, e := frame.GetUpdate(text)
		is(n.T, "frame.GetUpdate", e, api.OK)
		for _, x := range u.Entries {
			k, ok := n.floors[id][x.Dest]
			if x.Dest != id && (!ok || rank.Compare(x.Key, k) > 0) {
				n.floors[id][x.Dest] = x.Key
			}
			if x.Dest == id && x.Key != n.nodes[id].own.key {
				n.Fatalf("%d tells %v of itself, not %v", id, x.Key, n.nodes[id].own.key)
			}
		}
	case frame.IsRenewal:
		x, e := frame.GetRenewal(text)
		is(n.T, "frame.GetRenewal", e, api.OK)
		at := [2]int{x.Record.Dest, int(x.Record.Epoch)}
		if last, ok := n.signed[at]; ok && !bytes.Equal(last, text) {
			n.Fatalf("two records of the epoch %d of %d", x.Record.Epoch, x.Record.Dest)
		}
		n.signed[at] = text
	}
}

// deliver lets a letter arrive.
func (n *net) deliver(x letter) {
	if n.nodes[x.to] != nil && n.linked[x.from][x.to] {
		n.nodes[x.to].Take(x.text)
	}
}

// round lets all tick, and all arrive.
func (n *net) round() {
	n.Helper()
	for id, r := range n.nodes {
		if r != nil && r.Dead() == api.OK {
			n.tick(id)
		}
	}
	for len(n.flight) > 0 {
		x := n.flight[0]
		n.flight = n.flight[1:]
		n.deliver(x)
	}
}

func (n *net) rounds(many int) {
	n.Helper()
	for range many {
		n.round()
	}
}

// sound holds all tables to what no frame's fate may break: no way comes back, each route stands at its floor, and below the next node's one.
func (n *net) sound() {
	n.Helper()
	tables := make([][]fib.Hop, len(n.nodes))
	for id, r := range n.nodes {
		tables[id] = r.Fib()
	}
	for dest := range n.nodes {
		if l := fib.Loops(tables, dest); len(l) > 0 {
			n.Fatalf("to %d: %v", dest, l)
		}
	}
	for id, r := range n.nodes {
		for _, h := range r.Fib() {
			x, _ := r.Route(h.Dest)
			if f, ok := r.Floor(h.Dest); ok && rank.Compare(f, x.Key) > 0 {
				n.Fatalf("%d goes to %d with %v, below its floor %v", id, h.Dest, x.Key, f)
			}
			next := n.nodes[h.Next]
			if h.Next == h.Dest || next == nil || next.Dead() != api.OK {
				continue
			}
			if f, ok := next.Floor(h.Dest); !ok || rank.Compare(f, x.Key) <= 0 {
				n.Fatalf("%d goes to %d by %d with %v, not below the floor %v, %v", id, h.Dest, h.Next, x.Key, f, ok)
			}
		}
	}
}

// quick are rules under which much happens within few ticks.
func quick() Rules {
	r := wide()
	r.Peer.Dead, r.Rib.Hold, r.Settle.Period, r.Settle.Settle, r.Rotate, r.Spring.Height = 3, 2, 4, 1, 5, 1
	return r
}

// P25.2: two routers with a link have routes to each other.
func TestTwo(t *testing.T) {
	n := newNet(t, quick(), 2, 2000, [2]int{0, 1})
	n.rounds(10)
	for id, r := range n.nodes {
		if l := r.Fib(); len(l) != 1 || l[0] != (fib.Hop{Dest: 1 - id, Next: 1 - id, Metric: 1}) || r.Roots(1-id) != 1 {
			t.Errorf("%d: %v, roots %d", id, l, r.Roots(1-id))
		}
	}
}

// P25.2: the ends of a row have routes to each other by the middle, also in small pieces; behind a cut they have none; nor to whom crashed.
func TestRow(t *testing.T) {
	for _, most := range []int{64, 100, 700, 4096} {
		rules := quick()
		rules.Most = most
		n := newNet(t, rules, 3, 4000, [2]int{0, 1}, [2]int{1, 2})
		n.rounds(12)
		for id, want := range [][]fib.Hop{
			{{Dest: 1, Next: 1, Metric: 1}, {Dest: 2, Next: 1, Metric: 2}},
			{{Dest: 0, Next: 0, Metric: 1}, {Dest: 2, Next: 2, Metric: 1}},
			{{Dest: 0, Next: 1, Metric: 2}, {Dest: 1, Next: 1, Metric: 1}},
		} {
			if l := n.nodes[id].Fib(); len(fib.Diff(l, want)) != 0 || len(l) != 2 || l[0] != want[0] || l[1] != want[1] {
				t.Errorf("Most %d: %d: %v, not %v", most, id, l, want)
			}
		}
		n.link(1, 2, false)
		n.rounds(80)
		if l := n.nodes[2].Fib(); len(l) != 0 {
			t.Errorf("Most %d: cut off: %v", most, l)
		}
		if l := n.nodes[0].Fib(); len(l) != 1 || l[0].Dest != 1 {
			t.Errorf("Most %d: beyond the cut: %v", most, l)
		}
	}
}

// P25.2: where a link goes, the longer way is gone, as soon as it is newer, and the shorter one again behind that.
func TestRing(t *testing.T) {
	n := newNet(t, quick(), 4, 4000, [2]int{0, 1}, [2]int{1, 2}, [2]int{2, 3}, [2]int{3, 0})
	n.rounds(20)
	if h := fib.Lookup(n.nodes[0].Fib(), 1); h != 1 {
		t.Errorf("to 1 by %d", h)
	}
	n.link(0, 1, false)
	n.rounds(20)
	n.sound()
	if x, ok := n.nodes[0].Route(1); !ok || x.Next != 3 || x.Key.Metric != 3 {
		t.Errorf("the longer way: %v, %v", x, ok)
	}
	n.link(0, 1, true)
	n.rounds(20)
	if x, ok := n.nodes[0].Route(1); !ok || x.Next != 1 || x.Key.Metric != 1 {
		t.Errorf("the shorter way: %v, %v", x, ok)
	}
}

// P25.4: whatever is lost, late, doubled, or cut off, whoever crashes, whatever is torn: no loops, no floor falls, no sequence is used again.
func TestWhateverHappens(t *testing.T) {
	for seed := range int64(6) {
		r := rand.New(rand.NewSource(seed))
		rules := quick()
		rules.Spring.Height, rules.Peer.Dead = 2, 6
		n := newNet(t, rules, 4, 4000, [2]int{0, 1}, [2]int{1, 2}, [2]int{2, 3}, [2]int{3, 0})
		hops := 0
		for range 1500 {
			id := r.Intn(4)
			switch at := r.Intn(40); {
			case n.nodes[id] == nil:
				n.start(id)
			case at == 0:
				n.crash(id, r.Intn(5), r.Intn(65))
			case at == 1:
				n.link(id, (id+1)%4, r.Intn(3) > 0)
			case at == 2:
				n.devices[id].Fuse(r.Intn(30))
			case at < 26:
				if !n.tick(id) {
					n.crash(id, r.Intn(5), r.Intn(65))
				}
			}
			for range r.Intn(12) {
				n.fate(r)
			}
			for id, x := range n.nodes {
				if x.Dead() != api.OK && x != nil {
					n.crash(id, r.Intn(30), r.Intn(65))
				}
				hops += len(x.Fib())
			}
			n.sound()
		}
		if hops < 2000 {
			t.Errorf("seed %d: %d hops in all", seed, hops)
		}
	}
}

// fate lets something happen to some letter.
func (n *net) fate(r *rand.Rand) {
	if len(n.flight) == 0 {
		return
	}
	at := r.Intn(min(len(n.flight), 6))
	x := n.flight[at]
	if len(n.flight) > 60 || r.Intn(10) > 0 {
		n.flight = append(n.flight[:at:at], n.flight[at+1:]...)
	}
	if r.Intn(10) > 0 {
		n.deliver(x)
	}
}

// P25.5: wherever the power goes, and wherever a sector is torn, a router that is made anew goes on behind all that it told.
func TestPowerGoesAnywhere(t *testing.T) {
	steps := lives(t, -1, 0, 0)
	if steps < 300 {
		t.Fatalf("%d steps", steps)
	}
	for fuse := 0; fuse < steps; fuse++ {
		lives(t, fuse, fuse*7%31, fuse*13%65)
	}
}

// lives lets a row of three live, of which the middle one's power goes behind so many steps; its device's steps are told.
func lives(t *testing.T, fuse, writes, torn int) int {
	t.Helper()
	rules := quick()
	rules.Spring.Height, rules.Rotate = 0, 3
	n := newNet(t, rules, 3, 700, [2]int{0, 1}, [2]int{1, 2})
	n.devices[1].Fuse(fuse)
	for range 10 {
		n.round()
		if n.nodes[1].Dead() != api.OK {
			n.crash(1, writes, torn)
			// And once more, as the router begins.
			n.devices[1].Fuse(fuse % 4)
			if !n.start(1) {
				n.crash(1, writes%3, torn)
				n.start(1)
			}
		}
	}
	told := maps.Clone(n.floors[1])
	if len(told) != 2 {
		t.Fatalf("behind %d steps: told %v", fuse, told)
	}
	steps := n.devices[1].Steps()
	n.crash(1, 0, 0)
	n.start(1)
	n.rounds(1)
	if k, ok := n.nodes[1].Own(); !ok || k.Epoch < 3 {
		t.Fatalf("behind %d steps: the own sequence is %v, %v", fuse, k, ok)
	}
	return steps
}
