package router

import (
	"bytes"
	"fingerpost/api"
	"fingerpost/count"
	"fingerpost/fib"
	"fingerpost/frame"
	"fingerpost/ots"
	"fingerpost/peer"
	"fingerpost/piece"
	"fingerpost/proof"
	"fingerpost/renew"
	"fingerpost/rib"
	"fingerpost/settle"
	"fingerpost/slate"
	"fingerpost/spring"
	"fingerpost/toll"
	"maps"
	"reflect"
	"slices"
	"testing"
)

// wide are rules under which nothing is too dear, and news are slow.
func wide() Rules {
	return Rules{
		Spring: spring.Rules{Width: 4, Steps: 5, Height: 2},
		Peer:   peer.Rules{Dead: 3, Window: 32, Rates: toll.Rates{Frames: 10000, FramesTick: 10000, Blocks: 10000000, BlocksTick: 10000000}},
		Rib:    rib.Rules{Hold: 4, Life: 60},
		Settle: settle.Rules{Period: 1000, Settle: 2},
		Most:   700,
		Rotate: 1000,
	}
}

func seedOf(id int) api.Digest {
	return api.Digest{byte(id) + 1, 7}
}

// keyOf is the key of two nodes, the same one for both.
func keyOf(a, b int) api.Digest {
	return api.Digest{byte(min(a, b)), byte(max(a, b)), 31: 9}
}

// setupOf is the setup of a node with neighbours.
func setupOf(r Rules, self int, ids ...int) Setup {
	s := Setup{Self: self, Rules: r, Seed: seedOf(self)}
	for id := range r.Spring.Width {
		s.Keys = append(s.Keys, ots.Public(seedOf(id), ots.Name{Dest: id}))
	}
	for _, id := range ids {
		s.Links = append(s.Links, Link{Id: id, Key: keyOf(self, id)})
	}
	return s
}

func device(t *testing.T, sectors int) *slate.Slate {
	t.Helper()
	d, e := slate.New(sectors)
	if e != api.OK {
		t.Fatalf("slate.New(%d): %d", sectors, e)
	}
	return d
}

func made(t *testing.T, s Setup, d *slate.Slate) *Router {
	t.Helper()
	r, e := New(s, d)
	if r == nil || e != api.OK {
		t.Fatalf("New: %v, %d", r, e)
	}
	return r
}

func is(t *testing.T, what string, e, want api.Errno) {
	t.Helper()
	if e != want {
		t.Fatalf("%s: %d, not %d", what, e, want)
	}
}

func key(epoch, seq uint32, metric int) api.Key {
	return api.Key{Epoch: epoch, Seq: seq, Metric: metric}
}

// springOf is a destination's epoch.
func springOf(r Rules, dest int, epoch uint32) *spring.Spring {
	s, _ := spring.New(r.Spring, seedOf(dest), dest, epoch)
	return s
}

// recordOf is the record of a destination's epoch.
func recordOf(r Rules, dest int, epoch uint32) renew.Signed {
	x, _ := renew.Issue(springOf(r, dest, epoch), seedOf(dest), dest, epoch)
	return x
}

// claimOf is a node's claim of a destination, and what shows it, which the destination knows itself.
func claimOf(r Rules, dest int, k api.Key, sender int) frame.Entry {
	d, _ := proof.Issue(springOf(r, dest, k.Epoch), proof.Claim{Dest: dest, Key: k, Sender: sender})
	return frame.Entry{Dest: dest, Key: k, Cred: d}
}

// body is what sets out to a neighbour, or comes from one.
type body struct {
	id, kind int
	text     []byte
}

func same(a, b body) bool {
	return a.id == b.id && a.kind == b.kind && bytes.Equal(a.text, b.text)
}

func helloOf(id int, heard uint8, wants ...uint32) body {
	return body{id, frame.IsHello, frame.PutHello(frame.Hello{Heard: heard, Wants: wants})}
}

func renewalOf(id int, x renew.Signed) body {
	b, _ := frame.PutRenewal(x)
	return body{id, frame.IsRenewal, b}
}

func updateOf(id int, full bool, l ...frame.Entry) body {
	b, _ := frame.PutUpdate(frame.Update{Full: full, Entries: l})
	return body{id, frame.IsUpdate, b}
}

// cut is a body in pieces.
func cut(x body, number uint32, most int) []body {
	l, _ := piece.Split(number, append([]byte{byte(x.kind)}, x.text...), most-8)
	var all []body
	for _, p := range l {
		b, _ := piece.Put(p)
		all = append(all, body{x.id, frame.IsPiece, b})
	}
	return all
}

// stage is a router whose neighbours the test plays.
type stage struct {
	*testing.T
	setup  Setup
	device *slate.Slate
	r      *Router
	boots  [api.MaxNodes]uint64
	counts [api.MaxNodes]uint64
	last   uint64 // count of what set out
}

// play is a stage of the node 0.
func play(t *testing.T, r Rules, ids ...int) *stage {
	t.Helper()
	s := &stage{T: t, setup: setupOf(r, 0, ids...), device: device(t, 1000)}
	for id := range s.boots {
		s.boots[id] = 1
	}
	s.r = made(t, s.setup, s.device)
	return s
}

// again lets the power go, and the router be made anew.
func (s *stage) again() {
	s.Helper()
	s.device.Crash(0, 0)
	s.r, s.last = made(s.T, s.setup, s.device), 0
}

// frame is a body from a neighbour as it comes.
func (s *stage) frame(x body) []byte {
	s.Helper()
	s.counts[x.id]++
	b, e := frame.Seal(keyOf(0, x.id), frame.Frame{From: x.id, To: 0, Boot: s.boots[x.id], Count: s.counts[x.id], Kind: x.kind, Body: x.text})
	is(s.T, "frame.Seal", e, api.OK)
	return b
}

// raw holds the router to what a frame comes to, and what it counts beside that frame.
func (s *stage) raw(what string, b []byte, want api.Errno, counted ...int) {
	s.Helper()
	was, text := s.r.Counters(), bytes.Clone(b)
	e := s.r.Take(b)
	is(s.T, what, e, want)
	turned := map[int]int64{count.Frames: 1}
	for _, which := range counted {
		turned[which]++
	}
	if got := count.Diff(was, s.r.Counters()); !maps.Equal(got, turned) {
		s.Fatalf("%s: counted %v, not %v", what, got, turned)
	}
	if !bytes.Equal(b, text) {
		s.Fatalf("%s: the frame was turned", what)
	}
}

// take is raw of a neighbour's body.
func (s *stage) take(what string, x body, want api.Errno, counted ...int) {
	s.Helper()
	s.raw(what, s.frame(x), want, counted...)
}

// meet lets neighbours be live.
func (s *stage) meet(ids ...int) {
	s.Helper()
	for _, id := range ids {
		s.take("hello", helloOf(id, 1), api.OK, count.Hellos)
	}
}

// know lets records of destinations come, by a neighbour, from the epoch 0 on.
func (s *stage) know(by int, epochs uint32, dests ...int) {
	s.Helper()
	for _, dest := range dests {
		for epoch := range epochs {
			s.take("record", renewalOf(by, recordOf(s.setup.Rules, dest, epoch)), api.OK, count.Renewals)
		}
	}
}

// offer lets a neighbour's claim be taken as the route.
func (s *stage) offer(by, dest int, k api.Key) {
	s.Helper()
	s.take("claim", s.claims(by, dest, k), api.OK, count.Updates, count.Entries, count.Taken)
}

// claims is an update of one claim.
func (s *stage) claims(by, dest int, k api.Key) body {
	return updateOf(by, false, claimOf(s.setup.Rules, dest, k, by))
}

// told is what sets out with a tick.
func (s *stage) told() []body {
	s.Helper()
	was := s.r.Counters()
	outs, e := s.r.Tick()
	is(s.T, "Tick", e, api.OK)
	var all []body
	for _, o := range outs {
		f, e := frame.Open(keyOf(0, o.To), o.Bytes)
		s.last++
		if e != api.OK || f.From != 0 || f.To != o.To || f.Boot != s.r.Boot() || f.Count != s.last {
			s.Fatalf("the frame %d to %d: %v, %d", s.last, o.To, f, e)
		}
		all = append(all, body{o.To, f.Kind, f.Body})
	}
	turned := map[int]int64{}
	if len(outs) > 0 {
		turned[count.Sent] = int64(len(outs))
	}
	if got := count.Diff(was, s.r.Counters()); !maps.Equal(got, turned) {
		s.Fatalf("a tick with %d frames counted %v", len(outs), got)
	}
	return all
}

// tick holds the router to what sets out with a tick, in order.
func (s *stage) tick(what string, want ...body) {
	s.Helper()
	got := s.told()
	if slices.EqualFunc(got, want, same) {
		return
	}
	for at := range max(len(got), len(want)) {
		var g, w body
		if at < len(got) {
			g = got[at]
		}
		if at < len(want) {
			w = want[at]
		}
		if !same(g, w) {
			s.Errorf("%s: the %d-th: to %d, kind %d: %.80x", what, at, g.id, g.kind, g.text)
			s.Errorf("%s: not:       to %d, kind %d: %.80x", what, w.id, w.kind, w.text)
		}
	}
	s.FailNow()
}

// ticks lets some ticks pass.
func (s *stage) ticks(many int) {
	s.Helper()
	for range many {
		s.told()
	}
}

// updates is what sets out with a tick of updates alone.
func (s *stage) updates() []frame.Update {
	s.Helper()
	var all []frame.Update
	for _, x := range s.told() {
		if x.kind == frame.IsUpdate {
			u, e := frame.GetUpdate(x.text)
			is(s.T, "frame.GetUpdate", e, api.OK)
			all = append(all, u)
		}
	}
	return all
}

// route holds the router to a route, and the hop by it.
func (s *stage) route(what string, dest, next int, k api.Key) {
	s.Helper()
	x, ok := s.r.Route(dest)
	if !ok || x.Dest != dest || x.Next != next || x.Key != k || !x.Valid || x.Known.Key != k {
		s.Fatalf("%s: the route to %d: %v, %v, not by %d, %v", what, dest, x, ok, next, k)
	}
	for _, h := range s.r.Fib() {
		if h.Dest == dest && h == (fib.Hop{Dest: dest, Next: next, Metric: k.Metric}) {
			return
		}
	}
	s.Fatalf("%s: the hops are %v, none to %d by %d, %d", what, s.r.Fib(), dest, next, k.Metric)
}

// lost holds the router to having no route.
func (s *stage) lost(what string, dest int) {
	s.Helper()
	if x, ok := s.r.Route(dest); ok || !reflect.DeepEqual(x, rib.Route{}) || fib.Lookup(s.r.Fib(), dest) != -1 {
		s.Fatalf("%s: the route to %d: %v, %v, hops %v", what, dest, x, ok, s.r.Fib())
	}
}

// floor holds the router to a destination's floor; a zero key is none.
func (s *stage) floor(what string, dest int, k api.Key) {
	s.Helper()
	got, ok := s.r.Floor(dest)
	if got != k || ok != (k != api.Key{}) {
		s.Fatalf("%s: the floor of %d: %v, %v, not %v", what, dest, got, ok, k)
	}
}

// telling is all that a router tells, but for its counters.
type telling struct {
	Fib    []fib.Hop
	Floors [api.MaxNodes]api.Key
	Routes [api.MaxNodes]rib.Route
	Own    api.Key
	Any    bool
	Live   []int
	Roots  [api.MaxNodes]int
	Now    int64
	Boot   uint64
	Spent  uint32
	Dead   api.Errno
}

func telled(r *Router) telling {
	x := telling{Fib: r.Fib(), Live: r.Live(), Now: r.Now(), Boot: r.Boot(), Spent: r.Spent(), Dead: r.Dead()}
	x.Own, x.Any = r.Own()
	for dest := range x.Floors {
		x.Floors[dest], _ = r.Floor(dest)
		x.Routes[dest], _ = r.Route(dest)
		x.Roots[dest] = r.Roots(dest)
	}
	return x
}
