package mesh

import (
	"fingerpost/api"
	"fingerpost/mac"
	"fingerpost/router"
	"slices"
)

// leastSectors is how many sectors a device has at least: a diary needs two halves.
const leastSectors = 2

// Config is a network: its rules, its seed, who is in it, who isn't to be trusted, who is linked at first.
type Config struct {
	Rules   router.Rules
	Seed    api.Digest
	Nodes   int
	Bad     []int
	Links   [][2]int
	Sectors int
}

// Right says whether a config may be.
func Right(c Config) bool {
	return peopled(c) && c.Sectors >= leastSectors && c.Sectors <= api.MaxSectors &&
		!slices.ContainsFunc(c.Bad, func(id int) bool { return !isNode(c, id) }) &&
		!slices.ContainsFunc(c.Links, func(l [2]int) bool {
			return !isNode(c, l[0]) || !isNode(c, l[1]) || l[0] == l[1]
		})
}

// Seed is a node's seed.
func Seed(c Config, id int) api.Digest {
	return mac.Mac(c.Seed[:], []byte{'S', byte(id)})
}

// Key is the key of two nodes.
func Key(c Config, a, b int) api.Digest {
	return mac.Mac(c.Seed[:], []byte{'K', byte(min(a, b)), byte(max(a, b))})
}

// Setup is a node's setup: every other node may become its neighbour.
func Setup(c Config, id int) router.Setup {
	if !peopled(c) || !isNode(c, id) {
		return router.Setup{}
	}
	return setup(c, id, firstKeys(c))
}

// setup is a node's setup, where all first keys are known already.
func setup(c Config, id int, keys []api.Sum) router.Setup {
	s := router.Setup{Self: id, Rules: c.Rules, Seed: Seed(c, id), Keys: keys}
	for other := range c.Nodes {
		if other != id {
			s.Links = append(s.Links, router.Link{Id: other, Key: Key(c, id, other)})
		}
	}
	return s
}

// firstKeys are those of all numbers of the width: also of those that are no nodes, as each router has a trust of them.
func firstKeys(c Config) []api.Sum {
	var l []api.Sum
	for id := range c.Rules.Spring.Width {
		l = append(l, router.Public(Seed(c, id), id))
	}
	return l
}

// peopled says whether there may be the rules, and so many nodes.
func peopled(c Config) bool {
	return router.Right(c.Rules) && c.Nodes >= 1 && c.Nodes <= c.Rules.Spring.Width
}

// isNode says whether a number is one of the nodes of a config.
func isNode(c Config, id int) bool {
	return id >= 0 && id < c.Nodes
}

// copied is a config that shares no memory with another one.
func copied(c Config) Config {
	c.Bad, c.Links = slices.Clone(c.Bad), slices.Clone(c.Links)
	return c
}
