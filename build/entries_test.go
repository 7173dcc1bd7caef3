package build

import (
	"fingerpost/api"
	"fingerpost/frame"
	"fingerpost/proof"
	"fingerpost/rib"
	"fingerpost/spring"
	"math"
	"math/rand"
	"slices"
	"testing"
)

// grown is a spring of a destination's epoch 1.
func grown(t *testing.T, dest int) *spring.Spring {
	t.Helper()
	s, e := spring.New(rules, api.Digest{byte(dest)}, dest, 1)
	if e != api.OK {
		t.Fatalf("spring.New: %d", e)
	}
	return s
}

// issued is what a spring's destination shows of itself.
func issued(t *testing.T, s *spring.Spring, dest int, k api.Key) proof.Cred {
	t.Helper()
	d, e := proof.Issue(s, proof.Claim{Dest: dest, Key: k, Sender: dest})
	if e != api.OK {
		t.Fatalf("Issue: %d", e)
	}
	return d
}

// P21.1: what a node tells is shown under its own name, and what its neighbour learned of that, too.
func TestEntriesAreShown(t *testing.T) {
	k := key(1, 2, 0)
	springs := map[int]*spring.Spring{}
	var routes []rib.Route
	for _, dest := range []int{6, 0, 3} {
		springs[dest] = grown(t, dest)
		c := proof.Claim{Dest: dest, Key: k, Sender: dest}
		d := issued(t, springs[dest], dest, k)
		next, e := proof.Check(rules, springs[dest].Root(), c, d)
		if e != api.OK {
			t.Fatalf("Check: %d", e)
		}
		known := proof.Learn(c, next, d)
		routes = append(routes, rib.Route{Dest: dest, Key: known.Key, Next: dest, Valid: true, Known: known})
	}
	self := 4
	springs[self] = grown(t, self)
	own := Own{Any: true, Key: k, Cred: issued(t, springs[self], self, k)}
	got := Entries(rules, self, own, routes, true, nil)
	var dests []int
	for _, x := range got {
		dests = append(dests, x.Dest)
		want := key(1, 2, 1)
		if x.Dest == self {
			want = k
		}
		if x.Key != want {
			t.Errorf("%d: %v, not %v", x.Dest, x.Key, want)
		}
		c := proof.Claim{Dest: x.Dest, Key: x.Key, Sender: self}
		if _, e := proof.Check(rules, springs[x.Dest].Root(), c, x.Cred); e != api.OK {
			t.Errorf("Check of %v: %d", c, e)
		}
	}
	if !slices.Equal(dests, []int{0, 3, 4, 6}) {
		t.Errorf("destinations: %v", dests)
	}
}

// P21.1: the own entry is what own tells, of any node, under any rules; without one there is none.
func TestOwnEntry(t *testing.T) {
	for _, self := range []int{0, 3, 7, 8, -1, math.MaxInt, math.MinInt} {
		for _, r := range []spring.Rules{rules, {}, {Width: 3, Steps: -1, Height: 90}} {
			for _, k := range []api.Key{{}, key(1, 2, 0), key(9, 9, 9), key(math.MaxUint32, math.MaxUint32, math.MinInt)} {
				own := Own{Any: true, Key: k, Cred: cred(9)}
				want := frame.Entry{Dest: self, Key: k, Cred: cred(9)}
				tells(t, "full", Entries(r, self, own, nil, true, nil), want)
				tells(t, "of it", Entries(r, self, own, nil, false, []int{1, self}), want)
				tells(t, "of another one", Entries(r, self, own, nil, false, []int{1, 2}))
				tells(t, "of none", Entries(r, self, own, nil, false, nil))
				own.Any = false
				tells(t, "there is none", Entries(r, self, own, nil, true, nil))
				tells(t, "there is none", Entries(r, self, own, nil, false, []int{self}))
			}
		}
	}
	tells(t, "nothing in it", Entries(rules, 2, Own{Any: true}, nil, true, nil), frame.Entry{Dest: 2})
}

// P21.1: by rising destinations, in whatever order the routes stand, and wherever the own one comes to stand.
func TestEntriesRise(t *testing.T) {
	r := rand.New(rand.NewSource(21))
	for self := range 8 {
		own := Own{Any: true, Key: key(1, 1, 0), Cred: cred(40)}
		var want []frame.Entry
		var routes []rib.Route
		for dest := range 8 {
			if dest == self {
				want = append(want, frame.Entry{Dest: self, Key: own.Key, Cred: own.Cred})
				continue
			}
			x := route(dest, key(1, uint32(dest)%4, dest%4+1))
			want = append(want, entry(t, rules, self, x))
			routes = append(routes, x)
		}
		r.Shuffle(len(routes), func(a, b int) { routes[a], routes[b] = routes[b], routes[a] })
		tells(t, "full", Entries(rules, self, own, routes, true, nil), want...)
		tells(t, "of all", Entries(rules, self, own, routes, false, []int{7, 6, 5, 4, 3, 2, 1, 0}), want...)
	}
}

// P21.1: if not full, those that are among the destinations, which may stand there twice, in any order, or be none.
func TestEntriesOfSome(t *testing.T) {
	own := Own{Any: true, Key: key(1, 1, 0), Cred: cred(40)}
	var routes []rib.Route
	for _, dest := range []int{5, 0, 7, 2} {
		routes = append(routes, route(dest, key(1, 0, 1)))
	}
	mine := frame.Entry{Dest: 3, Key: own.Key, Cred: own.Cred}
	e := func(at int) frame.Entry { return entry(t, rules, 3, routes[at]) }
	of := func(dests ...int) []frame.Entry { return Entries(rules, 3, own, routes, false, dests) }
	tells(t, "none", of())
	tells(t, "others", of(1, 4, 6, 8, -1, math.MaxInt, math.MinInt))
	tells(t, "5", of(5), e(0))
	tells(t, "7, 0, twice", of(7, 0, 7, 0), e(1), e(2))
	tells(t, "3 and 2", of(3, 2), e(3), mine)
	tells(t, "2, 3 and others", of(9, 2, -1, 3), e(3), mine)
	// Full is full, whatever the destinations are.
	tells(t, "full", Entries(rules, 3, own, routes, true, []int{5}), e(1), e(3), mine, e(0), e(2))
}

// P21.1: a route that isn't valid, or of the node itself, or whose Known can't be passed on, has no entry.
func TestRoutesWithoutEntries(t *testing.T) {
	for what, change := range map[string]func(r *spring.Rules, self *int, x *rib.Route){
		"not valid":              func(_ *spring.Rules, _ *int, x *rib.Route) { x.Valid = false },
		"of itself":              func(_ *spring.Rules, self *int, x *rib.Route) { *self = x.Dest },
		"its Dest is itself":     func(_ *spring.Rules, self *int, x *rib.Route) { x.Dest = *self },
		"the metric is Steps":    func(_ *spring.Rules, _ *int, x *rib.Route) { x.Known.Key.Metric = 5 },
		"the metric is below 0":  func(_ *spring.Rules, _ *int, x *rib.Route) { x.Known.Key.Metric = -1 },
		"no such sequence":       func(_ *spring.Rules, _ *int, x *rib.Route) { x.Known.Key.Seq = 4 },
		"no such epoch":          func(_ *spring.Rules, _ *int, x *rib.Route) { x.Known.Key.Epoch = 1<<16 + 1 },
		"no such destination":    func(_ *spring.Rules, _ *int, x *rib.Route) { x.Known.Dest = 8 },
		"below 0":                func(_ *spring.Rules, _ *int, x *rib.Route) { x.Known.Dest = -1 },
		"no such node":           func(_ *spring.Rules, self *int, _ *rib.Route) { *self = 8 },
		"a node below 0":         func(_ *spring.Rules, self *int, _ *rib.Route) { *self = -1 },
		"narrow":                 func(r *spring.Rules, _ *int, _ *rib.Route) { r.Width = 4 },
		"few steps":              func(r *spring.Rules, _ *int, _ *rib.Route) { r.Steps = 4 },
		"low":                    func(r *spring.Rules, _ *int, _ *rib.Route) { r.Height = 1 },
		"no such width":          func(r *spring.Rules, _ *int, _ *rib.Route) { r.Width = 7 },
		"too many steps":         func(r *spring.Rules, _ *int, _ *rib.Route) { r.Steps = 17 },
		"too high":               func(r *spring.Rules, _ *int, _ *rib.Route) { r.Height = 7 },
		"not high":               func(r *spring.Rules, _ *int, _ *rib.Route) { r.Height = -1 },
		"known of no such thing": func(_ *spring.Rules, _ *int, x *rib.Route) { x.Known = proof.Known{Dest: math.MaxInt} },
	} {
		r, self, x := rules, 1, route(6, key(1<<16, 3, 4))
		tells(t, "unchanged", Entries(r, self, Own{}, []rib.Route{x}, true, nil), entry(t, r, self, x))
		change(&r, &self, &x)
		tells(t, what, Entries(r, self, Own{}, []rib.Route{x}, true, nil))
		tells(t, what, Entries(r, self, Own{}, []rib.Route{x}, false, []int{0, 1, 2, 3, 4, 5, 6, 7}))
	}
}

// P21.1: what is told of a route is what Pass tells of what is known; the route's own Dest says whether it is told.
func TestRouteUnlikeItsKnown(t *testing.T) {
	x := route(6, key(1, 3, 2))
	want := entry(t, rules, 1, x)
	x.Dest, x.Key, x.Next, x.Since = 2, key(0, 1, 9), -7, -1
	of := func(dests ...int) []frame.Entry { return Entries(rules, 1, Own{}, []rib.Route{x}, false, dests) }
	tells(t, "full", Entries(rules, 1, Own{}, []rib.Route{x}, true, nil), want)
	tells(t, "its Dest", of(2), want)
	tells(t, "what is known", of(6))
	// It stands by the destination that is told.
	y := route(4, key(1, 3, 3))
	tells(t, "rising", Entries(rules, 1, Own{}, []rib.Route{x, y}, true, nil), entry(t, rules, 1, y), want)
	// What is known may even be of the node itself.
	x.Known.Dest = 1
	mine := entry(t, rules, 1, x)
	if mine.Dest != 1 {
		t.Fatalf("Pass: %v", mine)
	}
	tells(t, "of itself", Entries(rules, 1, Own{}, []rib.Route{x}, true, nil), mine)
	x.Dest = 1
	tells(t, "its Dest is itself", Entries(rules, 1, Own{}, []rib.Route{x}, true, nil))
}

// P21.1: of several of one destination the first one that has an entry is told.
func TestFirstEntryIsTold(t *testing.T) {
	a, b, c := route(6, key(1, 1, 3)), route(6, key(1, 3, 1)), route(6, key(0, 0, 0))
	lower := route(5, key(1, 1, 1))
	two := func(l ...rib.Route) []frame.Entry { return Entries(rules, 1, Own{}, l, true, nil) }
	tells(t, "a", two(a, b, c), entry(t, rules, 1, a))
	tells(t, "b", two(b, lower, c, a), entry(t, rules, 1, lower), entry(t, rules, 1, b))
	a.Valid = false
	tells(t, "the first one isn't valid", two(a, b, c), entry(t, rules, 1, b))
	b.Known.Key.Metric = 5
	tells(t, "the second one isn't passed on", two(a, b, c), entry(t, rules, 1, c))
	// One that isn't among the destinations stands in nobody's way.
	a, b = route(6, key(1, 1, 3)), route(6, key(1, 3, 1))
	a.Dest = 7
	tells(t, "full", two(a, b), entry(t, rules, 1, a))
	tells(t, "of 6", Entries(rules, 1, Own{}, []rib.Route{a, b}, false, []int{6}), entry(t, rules, 1, b))
}

// P21.1: the own one stands ahead of all.
func TestOwnIsFirst(t *testing.T) {
	x := route(1, key(1, 3, 2))
	x.Dest = 6
	own := Own{Any: true, Key: key(0, 1, 0), Cred: cred(7)}
	mine := frame.Entry{Dest: 1, Key: own.Key, Cred: own.Cred}
	tells(t, "both", Entries(rules, 1, own, []rib.Route{x}, true, nil), mine)
	tells(t, "both", Entries(rules, 1, own, []rib.Route{x}, false, []int{6, 1}), mine)
	tells(t, "of 6", Entries(rules, 1, own, []rib.Route{x}, false, []int{6}), entry(t, rules, 1, x))
}

// modelled are the entries as the chapter's words tell them, destination by destination.
func modelled(r spring.Rules, self int, own Own, routes []rib.Route, full bool, dests []int) []frame.Entry {
	var l []frame.Entry
	for dest := -1; dest <= 8; dest++ {
		if dest == self && own.Any && (full || slices.Contains(dests, self)) {
			l = append(l, frame.Entry{Dest: dest, Key: own.Key, Cred: own.Cred})
			continue
		}
		for _, x := range routes {
			c, d, e := proof.Pass(r, x.Known, self)
			if x.Valid && x.Dest != self && e == api.OK && c.Dest == dest && (full || slices.Contains(dests, x.Dest)) {
				l = append(l, frame.Entry{Dest: dest, Key: c.Key, Cred: d})
				break
			}
		}
	}
	return l
}

// P21.1: against the model.
func TestEntriesAgainstModel(t *testing.T) {
	r := rand.New(rand.NewSource(211))
	many := 0
	for range 3000 {
		rules := spring.Rules{Width: 1 << min(r.Intn(6), 3), Steps: 1 + r.Intn(6), Height: r.Intn(4)}
		self, own := r.Intn(rules.Width+1)-r.Intn(2), Own{Any: r.Intn(2) == 0, Key: key(0, uint32(r.Intn(3)), 0), Cred: cred(r.Intn(99))}
		var routes []rib.Route
		for range r.Intn(12) {
			x := route(r.Intn(9)-r.Intn(2), key(1, uint32(r.Intn(4)), r.Intn(5)))
			x.Valid = r.Intn(5) > 0
			if r.Intn(6) == 0 {
				x.Dest = r.Intn(8)
			}
			routes = append(routes, x)
		}
		var dests []int
		for range r.Intn(6) {
			dests = append(dests, r.Intn(9))
		}
		full := r.Intn(2) == 0
		want := modelled(rules, self, own, routes, full, dests)
		tells(t, "model", Entries(rules, self, own, routes, full, dests), want...)
		if t.Failed() {
			return
		}
		many += len(want)
	}
	if many < 2000 {
		t.Errorf("%d entries alone", many)
	}
}

// R3: what is handed in is not changed and not kept, and no two lists share memory.
func TestEntriesAreNew(t *testing.T) {
	shared := append(sums(1, 5), some(6), some(7))
	x, y := route(2, key(1, 1, 1)), route(5, key(1, 1, 2))
	x.Known.Path, y.Known.Path = shared[:2], shared[:2]
	own := Own{Any: true, Key: key(1, 1, 0), Cred: proof.Cred{Leaf: some(1), Way: shared[:3], Path: shared[:2]}}
	routes, dests := []rib.Route{y, x}, []int{5, 2, 3}
	want := Entries(rules, 3, own, routes, false, dests)
	for at := range want {
		want[at].Cred.Way, want[at].Cred.Path = slices.Clone(want[at].Cred.Way), slices.Clone(want[at].Cred.Path)
	}
	got := Entries(rules, 3, own, routes, false, dests)
	for at := range got {
		for _, l := range [][]api.Sum{got[at].Cred.Way, got[at].Cred.Path} {
			was := slices.Clone(l)
			fill(l, some(999))
			copy(l, was)
			tells(t, "spare room", got, want...)
			fill(l, some(999))
			others := slices.Delete(slices.Clone(got), at, at+1)
			tells(t, "others", others, slices.Delete(slices.Clone(want), at, at+1)...)
			copy(l, was)
		}
	}
	for at := range got {
		fill(got[at].Cred.Way, some(999))
		fill(got[at].Cred.Path, some(999))
	}
	fill(got, frame.Entry{Dest: -9})
	if !slices.Equal(shared, append(sums(1, 5), some(6), some(7))) || routes[0].Dest != 5 || routes[1].Dest != 2 || !slices.Equal(dests, []int{5, 2, 3}) {
		t.Error("what was handed in has changed")
	}
	tells(t, "again", Entries(rules, 3, own, routes, false, dests), want...)
	got = Entries(rules, 3, own, routes, false, dests)
	fill(shared, some(998))
	fill(routes, rib.Route{})
	fill(dests, -1)
	tells(t, "kept", got, want...)
}
