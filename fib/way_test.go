package fib

import (
	"math"
	"math/rand"
	"slices"
	"testing"
)

// P22.3: the chapter's example.
func TestExample(t *testing.T) {
	tables := [][]Hop{{to(2, 1)}, {to(2, 0)}}
	walks(t, "example", tables, 0, 2, true, 0, 1, 0)
	walks(t, "example", tables, 1, 2, true, 1, 0, 1)
}

// P22.3: a way ends at its destination, at a node without a hop to it, or without a table.
func TestWalk(t *testing.T) {
	tables := [][]Hop{
		{to(1, 1), to(3, 1), to(4, 6), to(5, 2)},
		{to(0, 0), to(3, 2), to(4, 0)},
		{to(3, 3), to(5, 7)},
		{to(0, 2)},
	}
	walks(t, "arrives", tables, 0, 3, false, 0, 1, 2, 3)
	walks(t, "arrives", tables, 2, 3, false, 2, 3)
	walks(t, "is there", tables, 3, 3, false, 3)
	walks(t, "is there, and has a hop", [][]Hop{{to(0, 1)}, {to(0, 0)}}, 0, 0, false, 0)
	walks(t, "no hop", tables, 3, 0, false, 3, 2)
	walks(t, "no hop at all", tables, 2, 0, false, 2)
	walks(t, "no table", tables, 1, 4, false, 1, 0, 6)
	walks(t, "no table at the end", tables, 0, 5, false, 0, 2, 7)
	walks(t, "the destination has no table", [][]Hop{{to(5, 5)}}, 0, 5, false, 0, 5)
	walks(t, "begins without a table", tables, 6, 3, false, 6)
	walks(t, "begins at the destination, without a table", tables, 6, 6, false, 6)
	for _, n := range noNodes {
		walks(t, "begins nowhere", tables, n, 3, false, n)
		walks(t, "leads nowhere", tables, 0, n, false, 0)
	}
	walks(t, "no tables", nil, 0, 3, false, 0)
	walks(t, "no tables", nil, 0, 0, false, 0)
}

// P22.3: a way is looped as soon as a node comes a second time, whichever it is.
func TestWalkLooped(t *testing.T) {
	walks(t, "to itself", [][]Hop{{to(3, 0)}}, 0, 3, true, 0, 0)
	ring := [][]Hop{{to(5, 1)}, {to(5, 2)}, {to(5, 3)}, {to(5, 0)}}
	walks(t, "ring", ring, 0, 5, true, 0, 1, 2, 3, 0)
	walks(t, "ring", ring, 2, 5, true, 2, 3, 0, 1, 2)
	tail := [][]Hop{{to(7, 1)}, {to(7, 2)}, {to(7, 4)}, {to(7, 2)}, {to(7, 3)}, {to(7, 5)}}
	walks(t, "not where it began", tail, 0, 7, true, 0, 1, 2, 4, 3, 2)
	walks(t, "to itself at last", [][]Hop{{to(7, 1)}, {to(7, 1)}}, 0, 7, true, 0, 1, 1)
	var longest [][]Hop
	for at := range 7 {
		longest = append(longest, []Hop{to(7, (at+1)%7)})
	}
	walks(t, "all others", longest, 0, 7, true, 0, 1, 2, 3, 4, 5, 6, 0)
	walks(t, "all others", longest, 6, 7, true, 6, 0, 1, 2, 3, 4, 5, 6)
	// The destination ends it: what its own table tells is not gone by.
	walks(t, "by the destination", [][]Hop{{to(1, 1)}, {to(1, 0)}}, 0, 1, false, 0, 1)
}

// P22.3: the looped ways, from each node that has a table.
func TestLoops(t *testing.T) {
	loops := func(what string, tables [][]Hop, dest int, want ...[]int) {
		t.Helper()
		if got := Loops(tables, dest); !slices.EqualFunc(got, want, slices.Equal) {
			t.Errorf("%s, %d: %v, not %v", what, dest, got, want)
		}
	}
	tables := [][]Hop{{to(2, 1), to(4, 5)}, {to(2, 0), to(4, 3)}, {to(4, 1)}, {to(2, 1), to(4, 4)}, {to(2, 2)}}
	loops("some", tables, 2, []int{0, 1, 0}, []int{1, 0, 1}, []int{3, 1, 0, 1})
	loops("none", tables, 4)
	loops("no hops", tables, 7)
	loops("no tables", nil, 2)
	loops("empty tables", make([][]Hop, 4), 2)
	// The node 4 would come there, too, but has no table.
	loops("without a table", [][]Hop{{to(7, 1)}, {to(7, 0)}, nil, {to(7, 3)}}, 7, []int{0, 1, 0}, []int{1, 0, 1}, []int{3, 3})
	for _, dest := range noNodes {
		loops("no such destination", tables, dest)
	}
}

// stepped is a way as the chapter's words tell it.
func stepped(tables [][]Hop, from, dest int) ([]int, bool) {
	way := []int{from}
	for {
		at := way[len(way)-1]
		if at == dest || at >= len(tables) {
			return way, false
		}
		hop := slices.IndexFunc(tables[at], func(h Hop) bool { return h.Dest == dest })
		if hop < 0 {
			return way, false
		}
		next := tables[at][hop].Next
		came := map[int]bool{}
		for _, n := range way {
			came[n] = true
		}
		way = append(way, next)
		if came[next] {
			return way, true
		}
	}
}

// P22.3, P22.5: against the model; a way that isn't looped has each node once, one that is has but its last one twice.
func TestWaysAgainstModel(t *testing.T) {
	r := rand.New(rand.NewSource(223))
	looped := 0
	for range 2000 {
		tables := someTables(r, r.Intn(9))
		dest := r.Intn(8)
		var want [][]int
		for from := range 8 {
			way, isLooped := stepped(tables, from, dest)
			walks(t, "model", tables, from, dest, isLooped, way...)
			if isLooped && from < len(tables) {
				want = append(want, way)
			}
			once := slices.Clone(way)
			if isLooped {
				once = once[:len(way)-1]
				looped++
			}
			slices.Sort(once)
			if len(slices.Compact(once)) != len(once) {
				t.Fatalf("from %d to %d: %v comes twice to some node", from, dest, way)
			}
		}
		if got := Loops(tables, dest); !slices.EqualFunc(got, want, slices.Equal) {
			t.Errorf("Loops: %v, not %v", got, want)
		}
		if t.Failed() {
			return
		}
	}
	if looped < 1000 {
		t.Errorf("%d looped ways alone", looped)
	}
}

// P22.5: where each hop leads to a node that is nearer by some measure, no way is looped.
func TestNearerIsNotLooped(t *testing.T) {
	r := rand.New(rand.NewSource(225))
	for range 1000 {
		dest, measure := r.Intn(8), r.Perm(8)
		tables := make([][]Hop, 8)
		for at := range tables {
			next := r.Intn(8)
			if measure[next] < measure[at] {
				tables[at] = []Hop{to(dest, next)}
			}
		}
		for from := range 8 {
			if way, looped := Walk(tables, from, dest); looped {
				t.Fatalf("%v by %v: %v", tables, measure, way)
			}
		}
		if l := Loops(tables, dest); len(l) != 0 {
			t.Fatalf("%v by %v: %v", tables, measure, l)
		}
	}
}

// P22.4
func TestFar(t *testing.T) {
	row := linked(4, [2]int{0, 1}, [2]int{1, 2}, [2]int{2, 3})
	far(t, "in a row", row, 0, 0, 1, 2, 3)
	far(t, "in a row", row, 2, 2, 1, 0, 1)
	ring := linked(6, [2]int{0, 1}, [2]int{1, 2}, [2]int{2, 3}, [2]int{3, 4}, [2]int{4, 5}, [2]int{5, 0})
	far(t, "in a ring", ring, 1, 1, 0, 1, 2, 3, 2)
	apart := linked(5, [2]int{0, 3}, [2]int{1, 2})
	far(t, "apart", apart, 3, 1, -1, -1, 0, -1)
	far(t, "alone", apart, 4, -1, -1, -1, -1, 0)
	far(t, "to itself", [][]bool{{true}}, 0, 0)
	far(t, "two ways", linked(4, [2]int{0, 1}, [2]int{1, 2}, [2]int{2, 3}, [2]int{0, 3}), 0, 0, 1, 2, 1)
}

// P22.4: links go from the destination on, where they go one way alone.
func TestFarGoesOneWay(t *testing.T) {
	round := [][]bool{{false, true, false}, {false, false, true}, {true, false, false}}
	far(t, "round", round, 0, 0, 1, 2)
	far(t, "round", round, 1, 2, 0, 1)
	far(t, "not back", [][]bool{{false, true}, {false, false}}, 1, -1, 0)
	far(t, "there", [][]bool{{false, true}, {false, false}}, 0, 0, 1)
}

// P22.4: what is lacking, or of nodes without a row, is no link; there may be no such destination.
func TestFarOfOddLinks(t *testing.T) {
	far(t, "short rows", [][]bool{{false, true}, {}, nil}, 0, 0, 1, -1)
	far(t, "short rows", [][]bool{{false, true}, {true}, {true, true}}, 2, 1, 1, 0)
	far(t, "long rows", [][]bool{{false, false, true, true}, {true, true, true}}, 0, 0, -1)
	far(t, "long rows", [][]bool{{false, false, true, true}, {true, true, true}}, 1, 1, 0)
	far(t, "no rows", nil, 0)
	far(t, "one without links", [][]bool{nil}, 0, 0)
	for _, dest := range []int{-1, 3, 4, 8, math.MaxInt, math.MinInt} {
		far(t, "no such destination", linked(3, [2]int{0, 1}, [2]int{1, 2}), dest, -1, -1, -1)
		far(t, "no rows", nil, dest)
	}
}

// P22.4: against ways of one link more each time.
func TestFarAgainstModel(t *testing.T) {
	r := rand.New(rand.NewSource(224))
	for range 3000 {
		links := someLinks(r)
		dest := r.Intn(10)
		want := make([]int, len(links))
		for at := range want {
			want[at] = -1
		}
		here := map[int]bool{}
		if dest < len(links) {
			here[dest] = true
		}
		for steps := range len(links) {
			there := map[int]bool{}
			for at := range here {
				if want[at] < 0 {
					want[at] = steps
				}
				for other, is := range links[at] {
					if is && other < len(links) {
						there[other] = true
					}
				}
			}
			here = there
		}
		far(t, "model", links, dest, want...)
	}
}

// P22.5: hops that lead to nodes that are nearer by links are never looped, and arrive by as many.
func TestShortestWaysAreNotLooped(t *testing.T) {
	r := rand.New(rand.NewSource(2255))
	for range 500 {
		links := linked(8)
		for range 6 + r.Intn(12) {
			a, b := r.Intn(8), r.Intn(8)
			links[a][b], links[b][a] = true, true
		}
		dest := r.Intn(8)
		how := Far(links, dest)
		tables := make([][]Hop, 8)
		for at := range tables {
			for next := range 8 {
				if links[at][next] && how[next] == how[at]-1 && how[next] >= 0 {
					tables[at] = []Hop{{dest, next, how[at]}}
				}
			}
		}
		for from := range 8 {
			way, looped := Walk(tables, from, dest)
			if looped || how[from] >= 0 && len(way) != how[from]+1 || how[from] < 0 && len(way) != 1 {
				t.Fatalf("from %d to %d: %v, %v, by %v", from, dest, way, looped, how)
			}
		}
	}
}

// R3: tables and links aren't changed, and no two ways share memory.
func TestWaysAreNew(t *testing.T) {
	tables := [][]Hop{{to(2, 1)}, {to(2, 0)}, nil, {to(2, 0)}}
	want := Loops(tables, 2)
	got := Loops(tables, 2)
	for at := range got {
		fill(got[at], -9)
		if !slices.EqualFunc(got[at+1:], want[at+1:], slices.Equal) {
			t.Errorf("%d shares memory", at)
		}
	}
	fill(got, nil)
	way, _ := Walk(tables, 3, 2)
	fill(way, -9)
	if !slices.EqualFunc(Loops(tables, 2), want, slices.Equal) {
		t.Errorf("the tables have changed: %v", tables)
	}
	links := linked(3, [2]int{0, 1})
	fill(Far(links, 0), 7)
	far(t, "links", links, 0, 0, 1, -1)
}
