package fib

import (
	"fingerpost/api"
	"fingerpost/proof"
	"fingerpost/rib"
	"math"
	"math/rand"
	"slices"
	"testing"
)

// noNodes are numbers of no node.
var noNodes = []int{-1, -2, 8, 9, 16, 256, 1 << 32, math.MaxInt, math.MinInt}

// to is a hop of the metric 1.
func to(dest, next int) Hop {
	return Hop{Dest: dest, Next: next, Metric: 1}
}

// by is a valid route; what is known of it has another metric, and another destination.
func by(dest, next, metric int) rib.Route {
	return rib.Route{
		Dest:  dest,
		Key:   api.Key{Epoch: 3, Seq: 4, Metric: metric},
		Next:  next,
		Valid: true,
		Since: 5,
		Known: proof.Known{Dest: dest + 1, Key: api.Key{Metric: metric + 2}},
	}
}

// derives holds Derive to its answer.
func derives(t *testing.T, what string, routes []rib.Route, live []int, want ...Hop) {
	t.Helper()
	if got := Derive(routes, live); !slices.Equal(got, want) {
		t.Errorf("%s: %v, not %v", what, got, want)
	}
}

// walks holds Walk to its answer.
func walks(t *testing.T, what string, tables [][]Hop, from, dest int, wantLooped bool, want ...int) {
	t.Helper()
	if way, looped := Walk(tables, from, dest); !slices.Equal(way, want) || looped != wantLooped {
		t.Errorf("%s, from %d to %d: %v, %v, not %v, %v", what, from, dest, way, looped, want, wantLooped)
	}
}

// far holds Far to its answer.
func far(t *testing.T, what string, links [][]bool, dest int, want ...int) {
	t.Helper()
	if got := Far(links, dest); !slices.Equal(got, want) {
		t.Errorf("%s, %d: %v, not %v", what, dest, got, want)
	}
}

// linked are links of so many nodes, both ways.
func linked(many int, pairs ...[2]int) [][]bool {
	l := make([][]bool, many)
	for at := range l {
		l[at] = make([]bool, many)
	}
	for _, p := range pairs {
		l[p[0]][p[1]], l[p[1]][p[0]] = true, true
	}
	return l
}

// someTables are tables of so many nodes, with some hops to all of them, or beyond them.
func someTables(r *rand.Rand, many int) [][]Hop {
	tables := make([][]Hop, many)
	for at := range tables {
		for dest := range 8 {
			if r.Intn(8) > 0 {
				tables[at] = append(tables[at], Hop{dest, r.Intn(8), r.Intn(16)})
			}
		}
	}
	return tables
}

// someLinks are links some of which go one way alone, in rows that may be too short, or too long.
func someLinks(r *rand.Rand) [][]bool {
	l := make([][]bool, r.Intn(10))
	few := 1 + r.Intn(6)
	for at := range l {
		l[at] = make([]bool, max(0, len(l)+r.Intn(5)-2))
		for other := range l[at] {
			l[at][other] = r.Intn(few) == 0
		}
	}
	return l
}

// fill overwrites a list, its spare room too.
func fill[T any](l []T, with T) {
	l = l[:cap(l)]
	for at := range l {
		l[at] = with
	}
}
