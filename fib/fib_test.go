package fib

import (
	"fingerpost/rib"
	"math"
	"math/rand"
	"slices"
	"testing"
)

// P22.1: the valid routes by live neighbours; of each the metric of its own key.
func TestDerive(t *testing.T) {
	a, b, c := by(2, 3, 4), by(5, 0, 0), by(7, 3, 15)
	l := []rib.Route{a, b, c}
	derives(t, "all live", l, []int{0, 3}, Hop{2, 3, 4}, Hop{5, 0, 0}, Hop{7, 3, 15})
	derives(t, "twice, and others", l, []int{7, 3, 1, 0, 3, 3}, Hop{2, 3, 4}, Hop{5, 0, 0}, Hop{7, 3, 15})
	derives(t, "3", l, []int{3}, Hop{2, 3, 4}, Hop{7, 3, 15})
	derives(t, "0", l, []int{0}, Hop{5, 0, 0})
	derives(t, "destinations", l, []int{2, 5, 7, 4})
	derives(t, "nobody", l, nil)
	derives(t, "nobody", l, []int{})
	derives(t, "no routes", nil, []int{0, 1, 2, 3})
	l[0].Valid = false
	derives(t, "one isn't valid", l, []int{0, 3}, Hop{5, 0, 0}, Hop{7, 3, 15})
	l[1].Valid, l[2].Valid = false, false
	derives(t, "none is valid", l, []int{0, 3})
}

// P22.1: by rising destinations, in whatever order the routes stand.
func TestDeriveRises(t *testing.T) {
	var l []rib.Route
	var want []Hop
	for dest := range 8 {
		l = append(l, by(dest, 7-dest, dest+1))
		want = append(want, Hop{dest, 7 - dest, dest + 1})
	}
	r := rand.New(rand.NewSource(22))
	for range 50 {
		r.Shuffle(len(l), func(a, b int) { l[a], l[b] = l[b], l[a] })
		derives(t, "shuffled", l, []int{0, 1, 2, 3, 4, 5, 6, 7}, want...)
	}
}

// P22.1: of several of one destination the hop of the first one that has any.
func TestDeriveFirst(t *testing.T) {
	a, b, c, other := by(2, 3, 4), by(2, 1, 1), by(2, 3, 2), by(1, 3, 9)
	derives(t, "a", []rib.Route{a, b, c}, []int{1, 3}, Hop{2, 3, 4})
	derives(t, "b", []rib.Route{b, other, a, c}, []int{1, 3}, Hop{1, 3, 9}, Hop{2, 1, 1})
	derives(t, "c", []rib.Route{c, a, other, b}, []int{1, 3}, Hop{1, 3, 9}, Hop{2, 3, 2})
	derives(t, "b isn't live", []rib.Route{b, a, c}, []int{3}, Hop{2, 3, 4})
	a.Valid = false
	derives(t, "a isn't valid", []rib.Route{a, b, c}, []int{1, 3}, Hop{2, 1, 1})
	derives(t, "c alone", []rib.Route{a, b, c}, []int{3}, Hop{2, 3, 2})
}

// P22.1: against the chapter's words, destination by destination.
func TestDeriveAgainstModel(t *testing.T) {
	r := rand.New(rand.NewSource(221))
	for range 3000 {
		var routes []rib.Route
		for range r.Intn(20) {
			x := by(r.Intn(8), r.Intn(8), r.Intn(16))
			x.Valid = r.Intn(4) > 0
			routes = append(routes, x)
		}
		live := r.Perm(8)[:r.Intn(9)]
		var want []Hop
		for dest := range 8 {
			at := slices.IndexFunc(routes, func(x rib.Route) bool {
				return x.Valid && x.Dest == dest && slices.Contains(live, x.Next)
			})
			if at >= 0 {
				want = append(want, Hop{dest, routes[at].Next, routes[at].Key.Metric})
			}
		}
		derives(t, "model", routes, live, want...)
	}
}

// P22.2
func TestLookup(t *testing.T) {
	l := []Hop{{0, 4, 9}, {3, 0, 8}, {4, 4, 1}, {7, 6, 0}}
	for dest, want := range []int{4, -1, -1, 0, 4, -1, -1, 6} {
		if got := Lookup(l, dest); got != want {
			t.Errorf("%d: %d, not %d", dest, got, want)
		}
	}
	for _, dest := range append(noNodes, 0, 7) {
		if got := Lookup(nil, dest); got != -1 {
			t.Errorf("no hops, %d: %d", dest, got)
		}
		if got := Lookup(l[1:3], dest); got != -1 {
			t.Errorf("other hops, %d: %d", dest, got)
		}
	}
}

// P22.2: each destination whose next node is another one, or is gone, or has come; not one whose metric alone turned.
func TestDiff(t *testing.T) {
	was := []Hop{{0, 4, 9}, {1, 1, 1}, {3, 0, 8}, {4, 4, 1}, {7, 6, 2}}
	now := []Hop{{0, 5, 9}, {1, 1, 2}, {2, 0, 3}, {3, 0, 8}, {7, 0, 2}}
	differs := func(what string, was, now []Hop, want ...Change) {
		t.Helper()
		if got := Diff(was, now); !slices.Equal(got, want) {
			t.Errorf("%s: %v, not %v", what, got, want)
		}
	}
	differs("turned", was, now, Change{0, 4, 5}, Change{2, -1, 0}, Change{4, 4, -1}, Change{7, 6, 0})
	differs("turned back", now, was, Change{0, 5, 4}, Change{2, 0, -1}, Change{4, -1, 4}, Change{7, 0, 6})
	differs("all came", nil, was, Change{0, -1, 4}, Change{1, -1, 1}, Change{3, -1, 0}, Change{4, -1, 4}, Change{7, -1, 6})
	differs("all went", was, nil, Change{0, 4, -1}, Change{1, 1, -1}, Change{3, 0, -1}, Change{4, 4, -1}, Change{7, 6, -1})
	differs("nothing", was, was)
	differs("no hops", nil, []Hop{})
}

// P22.2: against the chapter's words.
func TestDiffAgainstModel(t *testing.T) {
	r := rand.New(rand.NewSource(222))
	for range 2000 {
		l := someTables(r, 2)
		next := [2][8]int{}
		for at := range next {
			for dest := range 8 {
				next[at][dest] = -1
			}
			for _, h := range l[at] {
				next[at][h.Dest] = h.Next
			}
		}
		var want []Change
		for dest := range 8 {
			if next[0][dest] != next[1][dest] {
				want = append(want, Change{dest, next[0][dest], next[1][dest]})
			}
			if got := Lookup(l[0], dest); got != next[0][dest] {
				t.Fatalf("Lookup(%v, %d): %d", l[0], dest, got)
			}
		}
		if got := Diff(l[0], l[1]); !slices.Equal(got, want) {
			t.Fatalf("Diff(%v, %v): %v, not %v", l[0], l[1], got, want)
		}
	}
}

// R1: of routes and hops of no nodes all calls end.
func TestOfNoNodes(t *testing.T) {
	odd := append(noNodes, 0, 3, 7)
	var routes []rib.Route
	var hops []Hop
	for _, dest := range odd {
		for _, next := range odd {
			routes = append(routes, by(dest, next, dest))
			hops = append(hops, Hop{dest, next, next})
		}
	}
	Derive(routes, odd)
	Diff(hops, nil)
	Diff(hops[20:], hops[:20])
	tables := [][]Hop{hops, nil, hops[30:], hops[7:40]}
	for _, dest := range odd {
		Lookup(hops, dest)
		Loops(tables, dest)
		for _, from := range odd {
			Walk(tables, from, dest)
			Walk([][]Hop{{to(dest, from)}, {to(dest, math.MaxInt)}}, 0, dest)
		}
	}
}

// R3: what is handed in is neither changed nor kept.
func TestDeriveIsNew(t *testing.T) {
	room := []rib.Route{by(7, 1, 1), by(2, 1, 2), by(2, 1, 3), by(0, 1, 4)}
	live := []int{5, 1, 3}
	got := Derive(room[:3], live[:2])
	fill(got, Hop{9, 9, 9})
	for at, want := range []int{7, 2, 2, 0} {
		if room[at].Dest != want {
			t.Errorf("the routes have changed: %v", room)
		}
	}
	if !slices.Equal(live, []int{5, 1, 3}) {
		t.Errorf("the neighbours have changed: %v", live)
	}
	was, now := []Hop{to(1, 2), to(3, 4), to(5, 6)}, []Hop{to(0, 7), to(3, 1)}
	fill(Diff(was[:2], now[:1]), Change{9, 9, 9})
	if !slices.Equal(was, []Hop{to(1, 2), to(3, 4), to(5, 6)}) || !slices.Equal(now, []Hop{to(0, 7), to(3, 1)}) {
		t.Errorf("the tables have changed: %v, %v", was, now)
	}
}
