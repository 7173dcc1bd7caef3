package truth

import (
	"fingerpost/api"
	"fingerpost/frame"
	"fingerpost/mesh"
	"fingerpost/peer"
	"fingerpost/proof"
	"fingerpost/renew"
	"fingerpost/rib"
	"fingerpost/router"
	"fingerpost/settle"
	"fingerpost/spring"
	"fingerpost/toll"
	"math/rand"
	"slices"
	"testing"
)

// web is a network with bad nodes, of which each claim that an honest one takes is judged.
type web struct {
	*testing.T
	*mesh.Mesh
	c       mesh.Config
	r       *rand.Rand
	oracle  *Oracle
	ledger  *Ledger // of all bad nodes: what one is shown all know
	known   []proof.Known
	entries []frame.Entry
	records map[source]renew.Signed
	wants   [api.MaxNodes][]uint32
	counts  [api.MaxNodes][api.MaxNodes]uint64
	routes  int         // of honest destinations, that were held against the oracle
	taken   int         // claims of honest destinations, by bad nodes
	sent    map[int]int // how often what was sent of honest destinations was what
	traitor bool        // whether bad nodes use the seeds of honest ones
}

// config is a network under whose rules much happens within few ticks, and nothing is too dear.
func config(width, nodes int, bad []int, links ...[2]int) mesh.Config {
	r := router.Rules{
		Spring: rules(width, 5, 2),
		Peer:   peer.Rules{Dead: 5, Window: 32, Rates: toll.Rates{Frames: 10000, FramesTick: 10000, Blocks: 10000000, BlocksTick: 10000000}},
		Rib:    rib.Rules{Hold: 2, Life: 40},
		Settle: settle.Rules{Period: 4, Settle: 1},
		Most:   4096, // No body is cut.
		Rotate: 5,
	}
	return mesh.Config{Rules: r, Seed: api.Digest{1, 31: 9}, Nodes: nodes, Bad: bad, Links: links, Sectors: 2000}
}

func newWeb(t *testing.T, run int64, c mesh.Config) *web {
	t.Helper()
	m, e := mesh.New(c)
	is(t, "mesh.New", e, api.OK)
	var l []api.Digest
	for id := range c.Rules.Spring.Width {
		l = append(l, mesh.Seed(c, id))
	}
	o, e := New(c.Rules.Spring, l)
	is(t, "New", e, api.OK)
	w := &web{T: t, Mesh: m, c: c, r: rand.New(rand.NewSource(run)), oracle: o, ledger: Open(), records: map[source]renew.Signed{}, sent: map[int]int{}}
	for _, id := range c.Bad {
		is(t, "Whole", w.ledger.Whole(id), api.OK)
	}
	return w
}

// opened is what a letter tells.
func (w *web) opened(l mesh.Letter) (int, []byte) {
	f, e := frame.Open(mesh.Key(w.c, l.From, l.To), l.Bytes)
	is(w.T, "Open", e, api.OK)
	return f.Kind, f.Body
}

// told are the entries of a letter, if it is an update.
func (w *web) told(l mesh.Letter) []frame.Entry {
	if kind, body := w.opened(l); kind == frame.IsUpdate {
		u, e := frame.GetUpdate(body)
		is(w.T, "GetUpdate", e, api.OK)
		return u.Entries
	}
	return nil
}

// hear learns from what an honest node showed a bad one: of honest destinations that is their own.
func (w *web) hear(l mesh.Letter) {
	switch kind, body := w.opened(l); kind {
	case frame.IsHello:
		h, _ := frame.GetHello(body)
		w.wants[l.From] = h.Wants
	case frame.IsRenewal:
		x, _ := frame.GetRenewal(body)
		w.records[source{x.Record.Dest, x.Record.Epoch}] = x
		if root, _ := w.oracle.Root(x.Record.Dest, x.Record.Epoch); x.Record.Root != root {
			w.Fatalf("%d told a root of %d that isn't its own", l.From, x.Record.Dest)
		}
	}
	for _, x := range w.told(l) {
		c := proof.Claim{Dest: x.Dest, Key: x.Key, Sender: l.From}
		if Judge(w.oracle, w.ledger, c, x.Cred) == Other {
			w.Fatalf("%d told %v, whose credential isn't its own", l.From, c)
		}
		is(w.T, "Show", w.ledger.Show(c), api.OK)
		root, _ := w.oracle.Root(x.Dest, x.Key.Epoch)
		next, e := proof.Check(w.c.Rules.Spring, root, c, x.Cred)
		is(w.T, "Check", e, api.OK)
		w.known = append(w.known, proof.Learn(c, next, x.Cred))
		w.entries = append(w.entries, x)
	}
}

// arrive delivers a frame, and judges what was taken of it.
func (w *web) arrive(at int) {
	l, e := w.Look(at)
	is(w.T, "Look", e, api.OK)
	if !w.Honest(l.To) {
		if w.Deliver(at) == api.OK && w.Honest(l.From) {
			w.hear(l)
		}
		return
	}
	if w.Honest(l.From) {
		w.Deliver(at)
		w.sound(l.To)
		return
	}
	was := w.keys(l.To)
	w.Deliver(at)
	now := w.keys(l.To)
	for _, x := range w.told(l) {
		if !w.Honest(x.Dest) {
			continue
		}
		c := proof.Claim{Dest: x.Dest, Key: x.Key, Sender: l.From}
		verdict := Judge(w.oracle, w.ledger, c, x.Cred)
		w.sent[verdict]++
		x.Key.Metric++
		if route, _ := w.Router(l.To).Route(x.Dest); now[x.Dest] == was[x.Dest] || route.Next != l.From || route.Key != x.Key {
			continue
		}
		w.taken++
		if verdict != Fair && !w.traitor {
			w.Fatalf("%d took %v, which is %d", l.To, c, verdict)
		}
	}
	w.sound(l.To)
}

// keys are those of a node's routes, by destinations.
func (w *web) keys(id int) [api.MaxNodes]api.Key {
	var l [api.MaxNodes]api.Key
	for dest := range l {
		x, _ := w.Router(id).Route(dest)
		l[dest] = x.Key
	}
	return l
}

// sound holds what a node knows of honest destinations to what is their own, and what it has by bad neighbours to what they were shown.
func (w *web) sound(id int) {
	for dest := range w.c.Nodes {
		x, ok := w.Router(id).Route(dest)
		if !ok || !w.Honest(dest) {
			continue
		}
		w.routes++
		k := x.Known
		element, e := w.oracle.Element(dest, k.Key.Epoch, int(k.Key.Seq), k.Key.Metric)
		is(w.T, "Element", e, api.OK)
		first := proof.Claim{Dest: dest, Key: k.Key, Sender: dest}
		first.Key.Metric = 0
		d, e := w.oracle.Cred(first)
		is(w.T, "Cred", e, api.OK)
		if k.Dest != dest || k.Key != x.Key || k.Element != element || !slices.Equal(k.Path, d.Path) {
			w.Fatalf("what %d knows of %v of %d isn't its own", id, x.Key, dest)
		}
		c := proof.Claim{Dest: dest, Key: x.Key, Sender: x.Next}
		c.Key.Metric--
		if !w.Honest(x.Next) && !w.ledger.May(c) && !w.traitor {
			w.Fatalf("%d has %v of %d by the bad node %d, of which nothing nearer was shown", id, x.Key, dest, x.Next)
		}
	}
}

// send lets a bad node send a body to a neighbour, under the next number.
func (w *web) send(from, to, kind int, body []byte) {
	w.counts[from][to]++
	w.Forge(from, to, frame.Frame{Boot: 1, Count: w.counts[from][to], Kind: kind, Body: body})
}

// act lets a bad node be a neighbour that is heard, that tells the records which are wanted, and claims what it likes.
func (w *web) act(from, to int) {
	h := frame.Hello{Heard: 255}
	for dest := range w.c.Rules.Spring.Width {
		h.Wants = append(h.Wants, w.lacking(dest))
	}
	w.send(from, to, frame.IsHello, frame.PutHello(h))
	for dest, epoch := range w.wants[to] {
		x, ok := w.records[source{dest, epoch}]
		// Of bad ones few, as each that is taken stays on the neighbour's device.
		if !w.Honest(dest) && epoch < 3 && dest < w.c.Nodes {
			s, _ := spring.New(w.c.Rules.Spring, mesh.Seed(w.c, dest), dest, epoch)
			x, _ = renew.Issue(s, mesh.Seed(w.c, dest), dest, epoch)
			ok = true
		}
		if ok && dest != to {
			b, _ := frame.PutRenewal(x)
			w.send(from, to, frame.IsRenewal, b)
		}
	}
	for range 3 {
		if x, ok := w.claim(from); ok {
			b, e := frame.PutUpdate(frame.Update{Entries: []frame.Entry{x}})
			is(w.T, "PutUpdate", e, api.OK)
			w.send(from, to, frame.IsUpdate, b)
		}
	}
}

// lacking is the first epoch of a destination of which bad nodes know no record.
func (w *web) lacking(dest int) uint32 {
	epoch := uint32(0)
	for {
		if _, ok := w.records[source{dest, epoch}]; !ok {
			return epoch
		}
		epoch++
	}
}

// claim is one of a bad node, passed on or made up.
func (w *web) claim(from int) (frame.Entry, bool) {
	r := w.c.Rules.Spring
	if len(w.known) == 0 {
		return frame.Entry{}, false
	}
	late := w.r.Intn(min(8, len(w.known))) + 1
	k, shown := w.known[len(w.known)-late], w.entries[len(w.entries)-late]
	c, d, e := proof.Pass(r, k, from)
	if w.traitor {
		return w.betrayed(from, k)
	}
	switch w.r.Intn(10) {
	case 0: // what another one showed, under the own name
		return shown, true
	case 1: // nearer, by what shows a farther one
		c.Key.Metric = w.r.Intn(k.Key.Metric)
	case 2: // nearer, by a farther rung's element taken for a nearer one
		k.Key.Metric = w.r.Intn(k.Key.Metric)
		c, d, e = proof.Pass(r, k, from)
	case 3: // of another sequence
		c.Key.Seq = uint32(w.r.Intn(1 << r.Height))
	case 4: // a bit turned
		d.Leaf[w.r.Intn(16)] ^= byte(1 << w.r.Intn(8))
	case 5: // by another seed
		s, _ := spring.New(r, mesh.Seed(w.c, from), c.Dest, c.Key.Epoch)
		c.Key.Metric = w.r.Intn(r.Steps)
		d, e = proof.Issue(s, c)
	case 6: // with another ladder's path
		d.Path = w.entries[w.r.Intn(len(w.entries))].Cred.Path
	}
	return frame.Entry{Dest: c.Dest, Key: c.Key, Cred: d}, e == api.OK
}

// betrayed is a claim that its destination's own seed shows: to be there.
func (w *web) betrayed(from int, k proof.Known) (frame.Entry, bool) {
	c := proof.Claim{Dest: k.Dest, Key: k.Key, Sender: from}
	c.Key.Metric = 0
	s, _ := spring.New(w.c.Rules.Spring, mesh.Seed(w.c, c.Dest), c.Dest, c.Key.Epoch)
	d, e := proof.Issue(s, c)
	return frame.Entry{Dest: c.Dest, Key: c.Key, Cred: d}, e == api.OK
}

// round lets all tick, or send what they like, and all arrive in any order, but for what is lost; now and then a node's power goes.
func (w *web) round() {
	for id := range w.c.Nodes {
		if w.Honest(id) {
			is(w.T, "Tick", w.Tick(id), api.OK)
			continue
		}
		for to := range w.c.Nodes {
			if w.Honest(to) && w.Linked(id, to) {
				w.act(id, to)
			}
		}
	}
	for w.Len() > 0 {
		at := w.r.Intn(min(6, w.Len()))
		switch w.r.Intn(30) {
		case 0:
			is(w.T, "Lose", w.Lose(at), api.OK)
		case 1:
			w.Twice(at)
			w.arrive(at)
		default:
			w.arrive(at)
		}
	}
	if id := w.r.Intn(60); id < w.c.Nodes && w.Honest(id) {
		is(w.T, "Crash", w.Crash(id, 0, 0), api.OK)
		is(w.T, "Start", w.Start(id), api.OK)
	}
}

// webs are networks whose honest nodes need bad ones, or have a way beside them.
func webs() []mesh.Config {
	return []mesh.Config{
		config(4, 4, []int{1}, [2]int{0, 1}, [2]int{1, 2}, [2]int{2, 3}),
		config(4, 4, []int{1, 2}, [2]int{0, 1}, [2]int{1, 2}, [2]int{2, 3}),
		config(4, 4, []int{3}, [2]int{0, 1}, [2]int{1, 2}, [2]int{2, 3}, [2]int{3, 0}),
		config(8, 6, []int{2, 5}, [2]int{0, 1}, [2]int{1, 2}, [2]int{2, 3}, [2]int{3, 4}, [2]int{4, 5}, [2]int{5, 0}, [2]int{1, 4}),
	}
}

// W1, P28.3: whatever bad nodes send, what honest nodes know of honest destinations is their own, and what they take of them is Fair.
func TestNothingIsMadeUp(t *testing.T) {
	for at, c := range webs() {
		var routes, taken, fair, other int
		for run := range int64(4) {
			w := newWeb(t, run, c)
			for range 60 {
				w.round()
			}
			routes, taken, fair, other = routes+w.routes, taken+w.taken, fair+w.sent[Fair], other+w.sent[Other]
		}
		if routes < 1000 || taken < 8 || fair < 300 || other < 600 {
			t.Errorf("the network %d: too little happens: %d routes, %d taken, %d fair, %d other", at, routes, taken, fair, other)
		}
	}
}

// P28.2, P28.3: what is taken of whoever uses an honest seed is its own all the same: Guessed, or Fair, if it is told that the seed is known.
func TestTraitors(t *testing.T) {
	for _, told := range []bool{false, true} {
		w := newWeb(t, 1, webs()[0])
		w.traitor = true
		if told {
			for id := range w.c.Nodes {
				is(t, "Whole", w.ledger.Whole(id), api.OK)
			}
		}
		for range 40 {
			w.round()
		}
		if w.taken < 5 || w.sent[Other] > 0 || told && w.sent[Guessed] > 0 || !told && w.sent[Guessed] < 20 {
			t.Errorf("told: %v: %d taken, %v", told, w.taken, w.sent)
		}
	}
}
