package mesh

import (
	"fingerpost/api"
	"fingerpost/config"
	"fingerpost/fib"
	"fingerpost/frame"
	"fingerpost/peer"
	"fingerpost/rib"
	"fingerpost/router"
	"fingerpost/settle"
	"fingerpost/spring"
	"fingerpost/toll"
	"math"
	"slices"
	"testing"
)

// noIds are numbers of no node of any network.
var noIds = []int{-1, -2, 8, 9, 256, 1 << 32, math.MaxInt, math.MinInt}

// quick are rules under which much happens within few ticks, and nothing is too dear.
func quick() router.Rules {
	return router.Rules{
		Spring: spring.Rules{Width: 4, Steps: 5, Height: 2},
		Peer:   peer.Rules{Dead: 5, Window: 32, Rates: toll.Rates{Frames: 10000, FramesTick: 10000, Blocks: 10000000, BlocksTick: 10000000}},
		Rib:    rib.Rules{Hold: 2, Life: 40},
		Settle: settle.Rules{Period: 4, Settle: 1},
		Most:   4096,
		Rotate: 5,
	}
}

// row is a network of nodes in a row, of which some are bad.
func row(nodes int, bad ...int) Config {
	c := Config{Rules: quick(), Seed: api.Digest{1, 31: 9}, Nodes: nodes, Bad: bad, Sectors: 2000}
	for id := 1; id < nodes; id++ {
		c.Links = append(c.Links, [2]int{id - 1, id})
	}
	return c
}

func made(t *testing.T, c Config) *Mesh {
	t.Helper()
	m, e := New(c)
	if m == nil || e != api.OK {
		t.Fatalf("New(%v): %v, %d", c, m, e)
	}
	return m
}

func is(t *testing.T, what string, e, want api.Errno) {
	t.Helper()
	if e != want {
		t.Fatalf("%s: %d, not %d", what, e, want)
	}
}

// round lets all ticks pass, and all arrive.
func round(m *Mesh) {
	for id := range m.Config().Nodes {
		m.Tick(id)
	}
	for range m.Len() {
		m.Deliver(0)
	}
}

func rounds(m *Mesh, many int) {
	for range many {
		round(m)
	}
}

// flies holds a network to the frames that are on their way.
func flies(t *testing.T, what string, m *Mesh, want ...Letter) {
	t.Helper()
	if n := m.Len(); n != len(want) {
		t.Fatalf("%s: %d are on their way, not %d", what, n, len(want))
	}
	for at, l := range want {
		if got, e := m.Look(at); e != api.OK || !alike(got, l) {
			t.Fatalf("%s: the %d-th is %v, %d, not %v", what, at, got, e, l)
		}
	}
}

// saw holds a network to what bad nodes were delivered.
func saw(t *testing.T, what string, m *Mesh, want ...Letter) {
	t.Helper()
	if got := m.Seen(); !slices.EqualFunc(got, want, alike) {
		t.Fatalf("%s: seen are %v, not %v", what, got, want)
	}
}

func alike(a, b Letter) bool {
	return a.From == b.From && a.To == b.To && string(a.Bytes) == string(b.Bytes)
}

// junk is a letter of a text.
func junk(from, to int, text string) Letter {
	return Letter{From: from, To: to, Bytes: []byte(text)}
}

// injects lets texts set out from a bad node.
func injects(t *testing.T, m *Mesh, from, to int, texts ...string) {
	t.Helper()
	for _, text := range texts {
		is(t, "Inject", m.Inject(from, to, []byte(text)), api.OK)
	}
}

// telling is all that a node tells, but for its counters.
type telling struct {
	Fib    []fib.Hop
	Floors [api.MaxNodes]api.Key
	Routes [api.MaxNodes]rib.Route
	Own    api.Key
	Any    bool
	Live   []int
	Roots  [api.MaxNodes]int
	Now    int64
	Boot   uint64
	Spent  uint32
	Dead   api.Errno
}

func telled(r *router.Router) telling {
	x := telling{Fib: r.Fib(), Live: r.Live(), Now: r.Now(), Boot: r.Boot(), Spent: r.Spent(), Dead: r.Dead()}
	x.Own, x.Any = r.Own()
	for dest := range x.Floors {
		x.Floors[dest], _ = r.Floor(dest)
		x.Routes[dest], _ = r.Route(dest)
		x.Roots[dest] = r.Roots(dest)
	}
	return x
}

// hello is a hello as a frame that hears all.
func hello(count uint64) frame.Frame {
	return frame.Frame{Boot: 1, Count: count, Kind: frame.IsHello, Body: frame.PutHello(frame.Hello{Heard: 255})}
}

// usual are the rules by default.
func usual() router.Rules {
	return router.Rules(config.Default())
}
