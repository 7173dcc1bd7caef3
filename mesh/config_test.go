package mesh

import (
	"fingerpost/api"
	"fingerpost/config"
	"fingerpost/ots"
	"fingerpost/router"
	"fingerpost/sha"
	"fingerpost/slate"
	"math"
	"reflect"
	"slices"
	"strconv"
	"testing"
)

// P27.1
func TestRight(t *testing.T) {
	for what, turn := range map[string]func(c *Config){
		"a row":               func(c *Config) {},
		"one node":            func(c *Config) { c.Nodes, c.Links = 1, nil },
		"as many as the rest": func(c *Config) { c.Nodes = 4 },
		"of the width 1":      func(c *Config) { c.Rules.Spring.Width, c.Nodes, c.Links = 1, 1, nil },
		"of the width 8":      func(c *Config) { c.Rules.Spring.Width, c.Nodes = 8, 8 },
		"no links":            func(c *Config) { c.Links = nil },
		"empty lists":         func(c *Config) { c.Links, c.Bad = [][2]int{}, []int{} },
		"a link twice":        func(c *Config) { c.Links = [][2]int{{0, 1}, {1, 0}, {0, 1}} },
		"many links":          func(c *Config) { c.Links = slices.Repeat(c.Links, 50) },
		"a bad one":           func(c *Config) { c.Bad = []int{2} },
		"all are bad":         func(c *Config) { c.Bad = []int{2, 0, 1} },
		"a bad one twice":     func(c *Config) { c.Bad = []int{1, 1, 1, 1, 1, 1, 1, 1, 1, 1} },
		"no seed":             func(c *Config) { c.Seed = api.Digest{} },
		"two sectors":         func(c *Config) { c.Sectors = 2 },
		"the most sectors":    func(c *Config) { c.Sectors = 4096 },
		"rules by default":    func(c *Config) { c.Rules = usual() },
	} {
		c := row(3)
		if turn(&c); !Right(c) {
			t.Errorf("%s isn't right", what)
		}
	}
	for what, turn := range wrongs() {
		c := row(3)
		if turn(&c); Right(c) {
			t.Errorf("%s is right", what)
		}
		if m, e := New(c); m != nil || e != api.ErrArg {
			t.Errorf("%s: New: %v, %d", what, m, e)
		}
	}
}

// wrongs are what makes a row of three a config that may not be.
func wrongs() map[string]func(c *Config) {
	all := map[string]func(c *Config){
		"nothing":           func(c *Config) { *c = Config{} },
		"Most":              func(c *Config) { c.Rules.Most = 63 },
		"Rotate":            func(c *Config) { c.Rules.Rotate = 0 },
		"the width":         func(c *Config) { c.Rules.Spring.Width = 3 },
		"a great width":     func(c *Config) { c.Rules.Spring.Width = 16 },
		"the steps":         func(c *Config) { c.Rules.Spring.Steps = 16 },
		"beyond the width":  func(c *Config) { c.Nodes = 5 },
		"beyond its 1":      func(c *Config) { c.Rules.Spring.Width, c.Nodes, c.Links = 1, 2, nil },
		"beyond its 8":      func(c *Config) { c.Rules.Spring.Width, c.Nodes = 8, 9 },
		"linked to itself":  func(c *Config) { c.Links = append(c.Links, [2]int{1, 1}) },
		"a bad one too far": func(c *Config) { c.Bad = []int{0, 3} },
		"a bad link":        func(c *Config) { c.Links[1] = [2]int{2, 3} },
		"it, as the first":  func(c *Config) { c.Links[1] = [2]int{3, 2} },
		"it, ahead of all":  func(c *Config) { c.Links[0] = [2]int{0, 3} },
	}
	for _, n := range append([]int{0, 5}, noIds...) {
		all["nodes "+strconv.Itoa(n)] = func(c *Config) { c.Nodes, c.Links = n, nil }
	}
	for what, n := range map[string]int{"below": -1, "far below": math.MinInt, "none": 0, "one": 1, "above": 4097, "far above": math.MaxInt} {
		all["sectors "+what] = func(c *Config) { c.Sectors = n }
	}
	for what, n := range map[string]int{"below": -1, "far below": math.MinInt, "above": 8, "far above": math.MaxInt} {
		all["bad "+what] = func(c *Config) { c.Bad = []int{n} }
		all["from "+what] = func(c *Config) { c.Links = [][2]int{{n, 0}} }
		all["to "+what] = func(c *Config) { c.Links = [][2]int{{0, n}} }
	}
	return all
}

// P27.1: held against what another program reckoned.
func TestSeedAndKey(t *testing.T) {
	zero, other := Config{}, row(3)
	for _, x := range []struct {
		what string
		got  api.Digest
		want string
	}{
		{"Seed of 0", Seed(zero, 0), "00e99499e7cbdf71c1dad1cad6ca460b836d084ef9c55a3a5955a74b493feba7"},
		{"Seed of 3", Seed(zero, 3), "81595a4f5ced613e3f8313e60b7a0b07e5ed8e45e0078d0b42eae0cb099cc4ba"},
		{"Seed of 7", Seed(zero, 7), "47dc877612009c5d5d62055384331680f3696b05a218239f37e730b4a7c79f6e"},
		{"another Seed of 0", Seed(other, 0), "0916f8343c700ee51894ec3e63538a05f47b9f155a23b5ccfcf9a33879d86541"},
		{"another Seed of 3", Seed(other, 3), "9226cec44caccc7b22f4976090f6534c20db527884e7a362778d25c5f715cbf7"},
		{"Key of 0, 1", Key(zero, 0, 1), "9cc3719456fef70e7cfd114f1218bcf0cfcc478373e5326b7a21966c71bda9ad"},
		{"Key of 1, 0", Key(zero, 1, 0), "9cc3719456fef70e7cfd114f1218bcf0cfcc478373e5326b7a21966c71bda9ad"},
		{"Key of 2, 7", Key(zero, 2, 7), "3531d9760d2f44c74d06402fd06fa52e1f2f0e38edb76fa681cf3a1db7c5e9e8"},
		{"another Key of 7, 2", Key(other, 7, 2), "26e1b0d84a8f88e6f1af93de61e00b610b195431f5b8d78a9edd12da0876792e"},
		{"another Key of 0, 1", Key(other, 0, 1), "b43e01776e84352edfaf3ce0c6bb61623a3f2af721e2b1fc2392b45099212374"},
	} {
		if got := sha.Hex(x.got[:]); got != x.want {
			t.Errorf("%s: %s, not %s", x.what, got, x.want)
		}
	}
}

// P27.1: a setup is one that may be, of all other nodes as links, and of all first keys of the width.
func TestSetup(t *testing.T) {
	c := row(3, 1)
	for id := range 3 {
		s := Setup(c, id)
		if !router.RightSetup(s) || s.Self != id || s.Rules != c.Rules || s.Seed != Seed(c, id) || len(s.Keys) != 4 || len(s.Links) != 2 {
			t.Fatalf("Setup(%d): %v", id, s)
		}
		for other, key := range s.Keys {
			if key != ots.Public(Seed(c, other), ots.Name{Dest: other}) {
				t.Errorf("Setup(%d): the first key of %d: %x", id, other, key)
			}
		}
		others := slices.DeleteFunc([]int{0, 1, 2}, func(other int) bool { return other == id })
		for at, l := range s.Links {
			if l.Id != others[at] || l.Key != Key(c, id, l.Id) || l.Key != Key(c, l.Id, id) {
				t.Errorf("Setup(%d): the %d-th link: %v", id, at, l)
			}
		}
	}
	// What isn't linked may be so later on, and what is bad is a neighbour as any other one.
	c.Links, c.Bad = nil, nil
	if got := Setup(c, 0); !reflect.DeepEqual(got, Setup(row(3, 1), 0)) {
		t.Errorf("without links: %v", got)
	}
}

// P27.1, R1: of what isn't a node there is no setup.
func TestSetupOfNobody(t *testing.T) {
	for _, id := range append([]int{3}, noIds...) {
		if s := Setup(row(3), id); !reflect.DeepEqual(s, router.Setup{}) {
			t.Errorf("Setup(%d): %v", id, s)
		}
		Seed(row(3), id)
		Key(row(3), id, 0)
		Key(row(3), 0, id)
	}
	for _, n := range []int{math.MaxInt, math.MinInt, -1} {
		c := row(3)
		c.Rules.Spring.Width, c.Nodes = n, n
		if s := Setup(c, 0); !reflect.DeepEqual(s, router.Setup{}) {
			t.Errorf("Setup of the width %d: %v", n, s)
		}
	}
}

// P27.1: all honest nodes run, in their first boot; nothing is on its way.
func TestNew(t *testing.T) {
	c := row(4, 2)
	c.Links = append(c.Links, [2]int{3, 0}, [2]int{0, 1})
	m := made(t, c)
	for id := range 4 {
		r := m.Router(id)
		if (r == nil) != (id == 2) || m.Honest(id) != (id != 2) {
			t.Fatalf("%d: %v, honest: %v", id, r, m.Honest(id))
		}
		if r != nil && !reflect.DeepEqual(telled(r), telling{Boot: 1}) {
			t.Errorf("%d tells %v", id, telled(r))
		}
	}
	flies(t, "New", m)
	saw(t, "New", m)
	linkedAre(t, m, [2]int{0, 1}, [2]int{1, 2}, [2]int{2, 3}, [2]int{0, 3})
}

// linkedAre holds a network to which of its nodes are linked.
func linkedAre(t *testing.T, m *Mesh, want ...[2]int) {
	t.Helper()
	for a := range 10 {
		for b := range 10 {
			if yes := slices.Contains(want, [2]int{min(a, b), max(a, b)}); m.Linked(a, b) != yes {
				t.Errorf("Linked(%d, %d): %v", a, b, !yes)
			}
		}
	}
}

// P27.1: the routers' errors are New's: a device that is too small for a vow. Bad nodes need none.
func TestNewOfSmallDevices(t *testing.T) {
	for sectors := 2; sectors < 12; sectors++ {
		c := row(3)
		c.Sectors = sectors
		d, _ := slate.New(sectors)
		_, want := router.New(Setup(c, 0), d)
		if m, e := New(c); e != want || (m != nil) != (e == api.OK) {
			t.Errorf("%d sectors: %v, %d, not %d", sectors, m, e, want)
		}
		if sectors == 2 && want == api.OK {
			t.Error("two sectors are enough")
		}
		c.Bad = []int{0, 1, 2}
		if m, e := New(c); m == nil || e != api.OK {
			t.Errorf("%d sectors of bad nodes: %v, %d", sectors, m, e)
		}
	}
}

// P27.3, R3: the config is told as it was, and neither what was handed in nor what is handed out is the network's own.
func TestConfig(t *testing.T) {
	given, want := row(3, 2, 2), row(3, 2, 2)
	m := made(t, given)
	clear(given.Bad)
	clear(given.Links)
	m.Link(0, 1, false)
	m.Crash(0, 0, 0)
	for range 2 {
		c := m.Config()
		if !reflect.DeepEqual(c, want) {
			t.Errorf("Config: %v, not %v", c, want)
		}
		clear(c.Bad)
		clear(c.Links)
	}
	if m.Honest(2) || !m.Honest(0) || !m.Linked(1, 2) {
		t.Error("the network keeps what was handed in")
	}
	is(t, "Start", m.Start(0), api.OK)
}

// P27.1: rules that a text tells are a network's.
func TestParsedRules(t *testing.T) {
	rules, m := config.Parse("width 2\nsteps 3")
	if c := (Config{Rules: router.Rules(rules), Nodes: 2, Sectors: 4000}); m != (config.Mistake{}) || !Right(c) {
		t.Errorf("%v: %v", m, c)
	}
}
