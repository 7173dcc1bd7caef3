package fib

import "slices"

// unreached is how far a node is that nobody comes to.
const unreached = -1

// Walk is the way that packets for a destination take, from a node on, by all nodes' tables; looped: it comes to a node twice.
func Walk(tables [][]Hop, from, dest int) (way []int, looped bool) {
	way = []int{from}
	for at := from; at != dest && !looped; {
		at = next(tables, at, dest)
		if at == none {
			break
		}
		looped = slices.Contains(way, at)
		way = append(way, at)
	}
	return way, looped
}

// next is where a node's table leads; -1, if it has no hop, or no table.
func next(tables [][]Hop, at, dest int) int {
	if !isOf(at, len(tables)) {
		return none
	}
	return Lookup(tables[at], dest)
}

// isOf says whether a node is one of so many.
func isOf(node, many int) bool {
	return node >= 0 && node < many
}

// Loops are all ways that come to a node twice, one for each from where they begin.
func Loops(tables [][]Hop, dest int) [][]int {
	var l [][]int
	for from := range len(tables) {
		if way, looped := Walk(tables, from, dest); looped {
			l = append(l, way)
		}
	}
	return l
}

// Far is how far each node is from a destination, by links; -1: it can't come there.
func Far(links [][]bool, dest int) []int {
	many := len(links)
	far := slices.Repeat([]int{unreached}, many)
	if !isOf(dest, many) {
		return far
	}
	far[dest] = 0
	// Nodes are reached in the order of how far they are, so that the first link to one is of a shortest way.
	for reached := []int{dest}; len(reached) > 0; reached = reached[1:] {
		at := reached[0]
		for to := range min(len(links[at]), many) {
			if links[at][to] && far[to] == unreached {
				far[to] = far[at] + 1
				reached = append(reached, to)
			}
		}
	}
	return far
}
