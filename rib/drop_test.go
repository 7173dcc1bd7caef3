package rib

import (
	"fingerpost/api"
	"testing"
)

// P19.2: what a neighbour offers is taken away, for all destinations; those are told whose route went by it.
func TestBreak(t *testing.T) {
	x := table(t)
	for _, dest := range []int{7, 5, 2, 1, 3} {
		offers(t, "3", x, 1, dest, 3, key(0, 5, 2), First)
	}
	offers(t, "as good", x, 1, 1, 4, key(0, 5, 2), Kept)
	offers(t, "worse", x, 1, 2, 4, key(0, 4, 2), Kept)
	offers(t, "better", x, 1, 5, 4, key(0, 5, 1), Nearer)
	offers(t, "4 alone", x, 1, 6, 4, key(0, 5, 1), First)
	dests(t, "Break", x.Break(2, 3), 1, 2, 3, 7)
	goes(t, "as good", x, 1, 4, key(0, 5, 2), 1, 1)
	goes(t, "worse", x, 2, 4, key(0, 4, 2), 1, 1)
	none(t, "itself", x, 3)
	goes(t, "it went by 4", x, 5, 4, key(0, 5, 1), 1, 1)
	goes(t, "4 alone", x, 6, 4, key(0, 5, 1), 1, 1)
	none(t, "3 alone", x, 7)
	for _, dest := range []int{1, 2, 3, 5, 7} {
		refuses(t, "held down", x, 4, 3, known(dest, 3, key(0, 5, 2)), api.Key{}, false, api.ErrHold)
	}
	offers(t, "what it didn't offer isn't held down", x, 4, 6, 3, key(0, 5, 0), Nearer)
	dests(t, "Break of one alone", x.Break(9, 3), 6)
	dests(t, "Break of nothing", x.Break(9, 3))
}

// P19.2: who offers nothing isn't held down, nor longer than it was.
func TestBreakOfNothing(t *testing.T) {
	x := made(t, 0, Rules{Hold: 10, Life: 1000})
	dests(t, "nothing", x.Break(5, 3))
	offers(t, "not held down", x, 6, 2, 3, key(0, 5, 2), First)
	dests(t, "Break", x.Break(10, 3), 2)
	dests(t, "once more", x.Break(15, 3))
	dests(t, "Expire", x.Expire(maxTick))
	refuses(t, "till 20", x, 19, 3, known(2, 3, key(0, 5, 2)), api.Key{}, false, api.ErrHold)
	offers(t, "from 20 on", x, 20, 2, 3, key(0, 5, 2), First)
}

// P19.2: the greatest times and rules.
func TestGreatest(t *testing.T) {
	x := made(t, 7, Rules{Hold: 1 << 20, Life: 1 << 20})
	offers(t, "3", x, maxTick-1<<20, 2, 3, key(0, 5, 2), First)
	offers(t, "4", x, maxTick-1<<20+1, 2, 4, key(0, 5, 2), Kept)
	dests(t, "Expire", x.Expire(maxTick), 2)
	goes(t, "4", x, 2, 4, key(0, 5, 2), maxTick-1<<20+1, 1)
	dests(t, "Break", x.Break(maxTick, 4), 2)
	refuses(t, "held down for ever", x, maxTick, 4, known(2, 4, key(0, 5, 2)), api.Key{}, false, api.ErrHold)
	x = made(t, 7, Rules{Hold: 1, Life: 1})
	offers(t, "at 0", x, 0, 0, 0, key(0, 0, 0), First)
	dests(t, "Expire(0)", x.Expire(0))
	dests(t, "Expire(1)", x.Expire(1), 0)
	refuses(t, "held down", x, 1, 0, known(0, 0, key(0, 0, 0)), api.Key{}, false, api.ErrHold)
	offers(t, "no more", x, 2, 0, 0, key(0, 0, 0), First)
}

// P19.2: what was told last Life ticks ago, or more, goes; being told again lets it live on.
func TestExpire(t *testing.T) {
	x := made(t, 0, Rules{Hold: 4, Life: 10})
	offers(t, "3", x, 5, 2, 3, key(0, 5, 2), First)
	offers(t, "4", x, 6, 2, 4, key(0, 5, 3), Kept)
	offers(t, "3", x, 6, 7, 3, key(0, 5, 2), First)
	offers(t, "3", x, 5, 1, 3, key(0, 5, 2), First)
	offers(t, "4", x, 5, 6, 4, key(0, 5, 2), First)
	offers(t, "5, better", x, 6, 6, 5, key(0, 5, 1), Nearer)
	offers(t, "3 again", x, 8, 1, 3, key(0, 5, 2), Fresh)
	dests(t, "at 0", x.Expire(0))
	dests(t, "at 14", x.Expire(14))
	if x.Offers(2) != 2 || x.Offers(6) != 2 {
		t.Error("at 14")
	}
	dests(t, "at 15", x.Expire(15), 2)
	goes(t, "4", x, 2, 4, key(0, 5, 3), 6, 1)
	goes(t, "told at 6", x, 7, 3, key(0, 5, 2), 6, 1)
	goes(t, "told at 8", x, 1, 3, key(0, 5, 2), 8, 1)
	goes(t, "the route goes by 5", x, 6, 5, key(0, 5, 1), 6, 1)
	refuses(t, "held down", x, 18, 3, known(2, 3, key(0, 5, 1)), api.Key{}, false, api.ErrHold)
	refuses(t, "held down, without the route", x, 18, 4, known(6, 4, key(0, 5, 1)), api.Key{}, false, api.ErrHold)
	offers(t, "newer", x, 18, 6, 4, key(0, 6, 9), Newer)
	offers(t, "no more held down", x, 19, 2, 3, key(0, 5, 2), Nearer)
	dests(t, "at 1000", x.Expire(1000), 1, 2, 6, 7)
	if l := x.Valid(); len(l) != 0 {
		t.Errorf("Valid: %v", l)
	}
}

// P19.2: several that go at once leave the route to the best of those that stay.
func TestExpireTogether(t *testing.T) {
	x := made(t, 0, Rules{Hold: 4, Life: 10})
	for _, from := range []int{6, 2, 5, 4} {
		x.Offer(1, from, known(3, from, key(0, 5, 2)), api.Key{}, false)
	}
	offers(t, "4 again", x, 3, 3, 4, key(0, 5, 2), Fresh)
	offers(t, "5 again", x, 2, 3, 5, key(0, 5, 2), Fresh)
	dests(t, "at 11", x.Expire(11), 3)
	goes(t, "by 4", x, 3, 4, key(0, 5, 2), 3, 2)
	dests(t, "at 12", x.Expire(12))
	goes(t, "by 4", x, 3, 4, key(0, 5, 2), 3, 1)
}

// P19.2: of no time, and of no such node, nothing is done.
func TestNothingIsDone(t *testing.T) {
	x := made(t, 1, Rules{Hold: 4, Life: 1})
	offers(t, "3", x, 0, 2, 3, key(0, 5, 2), First)
	offers(t, "0", x, 0, 2, 0, key(0, 5, 2), Kept)
	for _, now := range noTimes {
		dests(t, "Break", x.Break(now, 3))
		dests(t, "Expire", x.Expire(now))
	}
	for _, n := range append(noNodes, 1, 5) {
		dests(t, "Break", x.Break(7, n))
	}
	goes(t, "all stands", x, 2, 3, key(0, 5, 2), 0, 2)
}

// P19.2: what the floor is better than goes, of that destination alone.
func TestPrune(t *testing.T) {
	floor := key(2, 5, 7)
	for _, x := range []struct {
		k     api.Key
		stays bool
	}{
		{floor, true}, {key(2, 5, 6), true}, {key(2, 5, 0), true}, {key(2, 6, 15), true}, {key(3, 0, 15), true},
		{key(2, 5, 8), false}, {key(2, 4, 0), false}, {key(1, 63, 0), false}, {key(0, 0, 15), false},
	} {
		l := table(t)
		offers(t, "3", l, 1, 2, 3, x.k, First)
		offers(t, "of another one", l, 1, 4, 3, key(0, 0, 15), First)
		is(t, "Prune", l.Prune(2, floor), api.OK)
		if x.stays {
			goes(t, "stays", l, 2, 3, x.k, 1, 1)
		} else {
			none(t, "goes", l, 2)
			offers(t, "nobody is held down", l, 1, 2, 3, x.k, First)
		}
		goes(t, "of another one", l, 4, 3, key(0, 0, 15), 1, 1)
	}
}

// P19.2: the route stays by the best one of what the floor leaves.
func TestPruneAmongSeveral(t *testing.T) {
	l := table(t)
	for from, metric := range []int{1: 9, 2: 8, 3: 6, 4: 7, 5: 6} {
		if from > 0 {
			l.Offer(int64(from), from, known(2, from, key(0, 5, metric)), api.Key{}, false)
		}
	}
	goes(t, "3", l, 2, 3, key(0, 5, 6), 3, 5)
	is(t, "Prune", l.Prune(2, key(0, 5, 8)), api.OK)
	goes(t, "but for 1", l, 2, 3, key(0, 5, 6), 3, 4)
	is(t, "Prune", l.Prune(2, key(0, 5, 6)), api.OK)
	goes(t, "3 and 5", l, 2, 3, key(0, 5, 6), 3, 2)
	is(t, "Prune", l.Prune(2, key(0, 6, 15)), api.OK)
	none(t, "none", l, 2)
}

// P19.2: who is held down stays so, whatever is pruned.
func TestPruneHolds(t *testing.T) {
	l := made(t, 0, Rules{Hold: 10, Life: 1000})
	offers(t, "3", l, 1, 2, 3, key(0, 5, 7), First)
	dests(t, "Break", l.Break(100, 3), 2)
	offers(t, "4", l, 100, 2, 4, key(0, 5, 7), First)
	is(t, "Prune", l.Prune(2, key(1, 0, 0)), api.OK)
	none(t, "pruned", l, 2)
	refuses(t, "held down", l, 109, 3, known(2, 3, key(0, 5, 7)), api.Key{}, false, api.ErrHold)
	offers(t, "newer", l, 109, 2, 3, key(0, 6, 7), First)
}

// Errors
func TestPruneRefuses(t *testing.T) {
	for _, self := range []int{0, 5, 7} {
		l := made(t, self, Rules{Hold: 10, Life: 1000})
		offers(t, "3", l, 1, 2, 3, api.Key{}, First)
		for _, dest := range append(noNodes, self) {
			is(t, "of no other node", l.Prune(dest, key(0, 9, 9)), api.ErrArg)
		}
		for _, k := range noKeys {
			is(t, "a key that isn't right", l.Prune(2, k), api.ErrArg)
		}
		goes(t, "all stands", l, 2, 3, api.Key{}, 1, 1)
		is(t, "nothing to prune", l.Prune(6, key(1<<16, 63, 15)), api.OK)
	}
}
