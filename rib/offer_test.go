package rib

import (
	"fingerpost/api"
	"testing"
)

// The numbers that what an offer comes to has.
func TestNumbers(t *testing.T) {
	if Kept != 1 || Fresh != 2 || Nearer != 3 || Newer != 4 || First != 5 {
		t.Error(Kept, Fresh, Nearer, Newer, First)
	}
}

// P19.1: what an offer comes to behind another neighbour's one.
func TestBesideAnother(t *testing.T) {
	at := key(2, 5, 7)
	for _, x := range []struct {
		k    api.Key
		want int
	}{
		{key(2, 5, 7), Kept}, {key(2, 5, 8), Kept}, {key(2, 5, 15), Kept}, {key(2, 4, 0), Kept}, {key(1, 9, 0), Kept}, {key(0, 63, 0), Kept},
		{key(2, 5, 6), Nearer}, {key(2, 5, 0), Nearer},
		{key(2, 6, 15), Newer}, {key(2, 6, 0), Newer}, {key(2, 63, 7), Newer}, {key(3, 0, 15), Newer}, {key(1<<16, 0, 9), Newer},
	} {
		for _, others := range [][2]int{{3, 5}, {5, 3}} {
			l := table(t)
			offers(t, "the first one", l, 1, 2, others[0], at, First)
			offers(t, "another one", l, 2, 2, others[1], x.k, x.want)
			if x.want == Kept {
				goes(t, "kept", l, 2, others[0], at, 1, 2)
			} else {
				goes(t, "turned", l, 2, others[1], x.k, 2, 2)
			}
		}
	}
}

// P19.1: what an offer comes to behind one of the same neighbour, by which the route goes.
func TestBehindItsOwn(t *testing.T) {
	for _, x := range []struct {
		k    api.Key
		want int
	}{
		{key(2, 5, 7), Fresh}, {key(2, 5, 6), Nearer}, {key(2, 5, 0), Nearer},
		{key(2, 6, 7), Newer}, {key(2, 6, 15), Newer}, {key(3, 0, 0), Newer},
	} {
		l := table(t)
		offers(t, "the first one", l, 1, 2, 3, key(2, 5, 7), First)
		offers(t, "a worse one", l, 1, 2, 1, key(2, 5, 8), Kept)
		offers(t, "the next one", l, 4, 2, 3, x.k, x.want)
		goes(t, "the next one", l, 2, 3, x.k, 4, 2)
	}
	for _, k := range []api.Key{key(2, 5, 8), key(2, 4, 0), key(1, 63, 0)} {
		l := table(t)
		offers(t, "the first one", l, 1, 2, 3, key(2, 5, 7), First)
		refuses(t, "a worse one of its own", l, 4, 3, known(2, 3, k), api.Key{}, false, api.ErrOld)
		goes(t, "a worse one of its own", l, 2, 3, key(2, 5, 7), 1, 1)
	}
}

// P19.1: offers of a neighbour by which the route doesn't go are held against its own one, and told by what they come to.
func TestBehindItsOwnBeside(t *testing.T) {
	l := table(t)
	offers(t, "3", l, 1, 2, 3, key(0, 5, 2), First)
	offers(t, "1", l, 2, 2, 1, key(0, 5, 9), Kept)
	offers(t, "1 again", l, 3, 2, 1, key(0, 5, 9), Fresh)
	offers(t, "1 nearer, but not as near", l, 4, 2, 1, key(0, 5, 3), Kept)
	offers(t, "1 as near", l, 5, 2, 1, key(0, 5, 2), Kept)
	refuses(t, "1 worse than its own", l, 6, 1, known(2, 1, key(0, 5, 3)), api.Key{}, false, api.ErrOld)
	goes(t, "3 still", l, 2, 3, key(0, 5, 2), 1, 2)
	dests(t, "Break", l.Break(7, 3), 2)
	goes(t, "1's last one", l, 2, 1, key(0, 5, 2), 5, 1)
}

// P19.1: Fresh is told now, whoever offers it; what is known stays.
func TestFresh(t *testing.T) {
	l := table(t)
	offers(t, "3", l, 10, 2, 3, key(0, 5, 2), First)
	offers(t, "1", l, 11, 2, 1, key(0, 5, 4), Kept)
	other := known(2, 6, key(0, 5, 2))
	if got, e := l.Offer(20, 3, other, api.Key{}, false); got != Fresh || e != api.OK {
		t.Errorf("Fresh: %d, %d", got, e)
	}
	goes(t, "told at 20", l, 2, 3, key(0, 5, 2), 20, 2)
	offers(t, "told at 15", l, 15, 2, 3, key(0, 5, 2), Fresh)
	goes(t, "told at 15", l, 2, 3, key(0, 5, 2), 15, 2)
	offers(t, "told at the last time", l, maxTick, 2, 3, key(0, 5, 2), Fresh)
	goes(t, "told at the last time", l, 2, 3, key(0, 5, 2), maxTick, 2)
}

// P19.1: of several best ones the route goes by the one by which it went; else by the lowest one.
func TestTies(t *testing.T) {
	l := table(t)
	k := key(0, 5, 2)
	for _, from := range []int{4, 6, 3, 7} {
		l.Offer(1, from, known(2, from, k), api.Key{}, false)
	}
	goes(t, "by the first one", l, 2, 4, k, 1, 4)
	offers(t, "a lower one", l, 2, 2, 1, key(0, 5, 3), Kept)
	dests(t, "Break", l.Break(3, 4), 2)
	goes(t, "by the lowest one of the best", l, 2, 3, k, 1, 4)
	offers(t, "it comes again", l, 9, 2, 4, k, Kept)
	goes(t, "by the one by which it went", l, 2, 3, k, 1, 5)
	offers(t, "a nearer one", l, 9, 2, 7, key(0, 5, 1), Nearer)
	offers(t, "as near", l, 9, 2, 3, key(0, 5, 1), Kept)
	goes(t, "not by the one by which it went ahead of that", l, 2, 7, key(0, 5, 1), 9, 5)
	dests(t, "Break", l.Break(10, 7), 2)
	goes(t, "by 3", l, 2, 3, key(0, 5, 1), 9, 4)
}

// P19.1: behind routes that all were taken away the next one is First, whomever the last one went by.
func TestFirstAgain(t *testing.T) {
	l := made(t, 0, Rules{Hold: 0, Life: 9})
	offers(t, "3", l, 1, 2, 3, key(0, 5, 2), First)
	dests(t, "Break", l.Break(2, 3), 2)
	none(t, "broken", l, 2)
	offers(t, "6", l, 2, 2, 6, key(0, 1, 9), First)
	offers(t, "3", l, 2, 2, 3, key(0, 1, 9), Kept)
	goes(t, "6", l, 2, 6, key(0, 1, 9), 2, 2)
}

// Errors: ErrArg, ahead of all others.
func TestWrongArguments(t *testing.T) {
	l := table(t)
	offers(t, "2", l, 1, 2, 3, key(4, 5, 2), First)
	l.Offer(1, 4, known(2, 4, key(4, 5, 2)), api.Key{}, false)
	dests(t, "Break", l.Break(maxTick, 4))
	floor := key(1<<16, 63, 0)
	for _, has := range []bool{false, true} {
		for _, n := range append(noNodes, 0) {
			refuses(t, "of no other node", l, 2, 3, known(n, 3, key(4, 5, 1)), floor, has, api.ErrArg)
			refuses(t, "from no other node", l, 2, n, known(2, n, key(4, 5, 1)), floor, has, api.ErrArg)
		}
		for _, k := range noKeys {
			refuses(t, "a key that isn't right", l, 2, 3, known(2, 3, k), floor, has, api.ErrArg)
			refuses(t, "a key that isn't right, held down", l, 2, 4, known(2, 4, k), floor, has, api.ErrArg)
		}
		for _, now := range noTimes {
			refuses(t, "at no time", l, now, 3, known(2, 3, key(4, 5, 1)), floor, has, api.ErrArg)
			refuses(t, "at no time, worse", l, now, 3, known(2, 3, key(4, 5, 9)), floor, has, api.ErrArg)
		}
	}
	for _, k := range []api.Key{{}, {Epoch: 1 << 16}, {Seq: 63}, {Metric: 15}, key(1<<16, 63, 15)} {
		offers(t, "the greatest numbers", table(t), maxTick, 7, 7, k, First)
		offers(t, "the least numbers", made(t, 7, Rules{Life: 1}), 0, 0, 0, k, First)
	}
}

// Errors: ErrOld of a floor that is better than the key; one that is as good, or that there isn't, refuses nothing.
func TestFloor(t *testing.T) {
	floor := key(2, 5, 7)
	for _, k := range []api.Key{key(2, 5, 8), key(2, 4, 0), key(1, 63, 0)} {
		refuses(t, "below the floor", table(t), 1, 3, known(2, 3, k), floor, true, api.ErrOld)
		offers(t, "without a floor", table(t), 1, 2, 3, k, First)
		if got, e := table(t).Offer(1, 3, known(2, 3, k), floor, false); got != First || e != api.OK {
			t.Errorf("a floor that isn't: %d, %d", got, e)
		}
	}
	for _, k := range []api.Key{floor, key(2, 5, 6), key(2, 6, 15), key(3, 0, 15)} {
		if got, e := table(t).Offer(1, 3, known(2, 3, k), floor, true); got != First || e != api.OK {
			t.Errorf("%v: %d, %d", k, got, e)
		}
	}
	l := table(t)
	offers(t, "3", l, 1, 2, 3, key(0, 5, 2), First)
	refuses(t, "what it offers already, below the floor", l, 2, 3, known(2, 3, key(0, 5, 2)), key(0, 5, 1), true, api.ErrOld)
	refuses(t, "below the floor, above the zero key", l, 2, 4, known(2, 4, key(0, 5, 2)), key(0, 6, 9), true, api.ErrOld)
	if got, e := l.Offer(2, 4, known(2, 4, api.Key{Metric: 1}), api.Key{Metric: 2}, true); got != Kept || e != api.OK {
		t.Errorf("above its floor, below the route: %d, %d", got, e)
	}
}

// Errors: ErrHold below the time, but for what is newer than the last key.
func TestHold(t *testing.T) {
	held := func() *Table {
		l := made(t, 0, Rules{Hold: 10, Life: 1000})
		offers(t, "3", l, 1, 2, 3, key(2, 5, 7), First)
		dests(t, "Break", l.Break(100, 3), 2)
		return l
	}
	for _, k := range []api.Key{key(2, 5, 7), key(2, 5, 8), key(2, 5, 6), key(2, 5, 0), key(2, 4, 0), key(1, 63, 0)} {
		for _, now := range []int64{0, 1, 99, 100, 101, 109} {
			refuses(t, "held down", held(), now, 3, known(2, 3, k), api.Key{}, false, api.ErrHold)
			offers(t, "another one isn't", held(), now, 2, 4, k, First)
			offers(t, "of another one it isn't", held(), now, 4, 3, k, First)
		}
		for _, now := range []int64{110, 111, maxTick} {
			offers(t, "no more held down", held(), now, 2, 3, k, First)
		}
		refuses(t, "ErrOld is ahead", held(), 101, 3, known(2, 3, k), key(2, 6, 9), true, api.ErrOld)
	}
	for _, k := range []api.Key{key(2, 6, 15), key(2, 6, 0), key(3, 0, 15)} {
		offers(t, "newer", held(), 100, 2, 3, k, First)
	}
}

// Errors: an offer ends the hold, and a refused one doesn't.
func TestHoldEnds(t *testing.T) {
	l := made(t, 0, Rules{Hold: 10, Life: 1000})
	offers(t, "3", l, 1, 2, 3, key(2, 5, 7), First)
	dests(t, "Break", l.Break(100, 3), 2)
	refuses(t, "held down", l, 101, 3, known(2, 3, key(2, 5, 7)), api.Key{}, false, api.ErrHold)
	refuses(t, "held down still", l, 102, 3, known(2, 3, key(2, 5, 7)), api.Key{}, false, api.ErrHold)
	offers(t, "newer", l, 103, 2, 3, key(2, 6, 7), First)
	offers(t, "nearer by the newer one", l, 104, 2, 3, key(2, 6, 6), Nearer)
	is(t, "Prune", l.Prune(2, key(2, 7, 0)), api.OK)
	none(t, "pruned", l, 2)
	offers(t, "nobody is held down any more", l, 105, 2, 3, key(2, 5, 7), First)
}

// Errors: with Hold 0 nobody is held down.
func TestNoHold(t *testing.T) {
	l := made(t, 0, Rules{Hold: 0, Life: 1000})
	offers(t, "3", l, 1, 2, 3, key(2, 5, 7), First)
	dests(t, "Break", l.Break(100, 3), 2)
	offers(t, "at once", l, 100, 2, 3, key(2, 5, 7), First)
	l = made(t, 0, Rules{Hold: 0, Life: 1000})
	offers(t, "3", l, 1, 2, 3, key(2, 5, 7), First)
	dests(t, "Break", l.Break(100, 3), 2)
	refuses(t, "below that time", l, 99, 3, known(2, 3, key(2, 5, 7)), api.Key{}, false, api.ErrHold)
}
