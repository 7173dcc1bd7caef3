package router

import (
	"fingerpost/api"
	"fingerpost/count"
	"fingerpost/frame"
	"fingerpost/renew"
	"slices"
	"testing"
)

// own is what the node 0 shows of itself.
func (s *stage) own(k api.Key) frame.Entry {
	return claimOf(s.setup.Rules, 0, k, 0)
}

// passed is what the node 0 shows of a route.
func (s *stage) passed(dest int, k api.Key) frame.Entry {
	return claimOf(s.setup.Rules, dest, k, 0)
}

// P25.2: the first tick begins the sequence 0.0/0; nobody is live yet, so hellos set out alone.
func TestFirstTick(t *testing.T) {
	s := play(t, wide(), 1, 3)
	s.tick("first", helloOf(1, 0, 1, 0, 0, 0), helloOf(3, 0, 1, 0, 0, 0))
	if k, ok := s.r.Own(); k != (api.Key{}) || !ok {
		t.Errorf("Own: %v, %v", k, ok)
	}
	if s.r.Now() != 1 || s.r.Spent() != 1 || s.r.Roots(0) != 1 {
		t.Errorf("now %d, spent %d, roots %d", s.r.Now(), s.r.Spent(), s.r.Roots(0))
	}
	// What nobody was live for isn't sent behind that: neither the record, nor the entries.
	s.tick("second", helloOf(1, 0, 1, 0, 0, 0), helloOf(3, 0, 1, 0, 0, 0))
	s.take("hello", helloOf(3, 0), api.OK, count.Hellos)
	s.tick("heard", helloOf(1, 8, 1, 0, 0, 0), helloOf(3, 8, 1, 0, 0, 0))
}

// P25.2: a node without neighbours has nobody to send to.
func TestTickAlone(t *testing.T) {
	s := play(t, wide())
	s.tick("first")
	s.tick("second")
	if k, ok := s.r.Own(); k != (api.Key{}) || !ok || s.r.Now() != 2 {
		t.Errorf("Own: %v, %v, now %d", k, ok, s.r.Now())
	}
}

// P25.2: hellos go to all neighbours, all else to the live ones; what a neighbour that comes doesn't know is urgent.
func TestNeighbourComes(t *testing.T) {
	s := play(t, wide(), 1, 2)
	s.ticks(1)
	s.meet(1)
	own := s.own(api.Key{})
	s.tick("one came", helloOf(1, 2, 1, 0, 0, 0), helloOf(2, 2, 1, 0, 0, 0), updateOf(1, false, own))
	s.tick("told", helloOf(1, 2, 1, 0, 0, 0), helloOf(2, 2, 1, 0, 0, 0))
	s.meet(1)
	s.tick("it was there", helloOf(1, 2, 1, 0, 0, 0), helloOf(2, 2, 1, 0, 0, 0))
	s.meet(2)
	s.tick("the other one came", helloOf(1, 6, 1, 0, 0, 0), helloOf(2, 6, 1, 0, 0, 0), updateOf(1, false, own), updateOf(2, false, own))
}

// P25.2: a neighbour that comes is told of all routes.
func TestNeighbourComesToRoutes(t *testing.T) {
	r := wide()
	r.Settle.Settle = 100
	s := play(t, r, 1, 2)
	s.meet(1)
	s.ticks(1)
	s.know(1, 1, 1, 3)
	s.offer(1, 1, key(0, 0, 0))
	s.offer(1, 3, key(0, 0, 2))
	s.ticks(1)
	s.offer(1, 3, key(0, 1, 2)) // which isn't told yet
	s.meet(1, 2)
	l := []frame.Entry{s.own(api.Key{}), s.passed(1, key(0, 0, 1)), s.passed(3, key(0, 1, 3))}
	s.tick("the other one came", helloOf(1, 6, 1, 1, 0, 1), helloOf(2, 6, 1, 1, 0, 1), updateOf(1, false, l...), updateOf(2, false, l...))
}

// P25.2: records that came new go to all live neighbours, each in turn to all, in order; once.
func TestFlood(t *testing.T) {
	s := play(t, wide(), 1, 2, 3)
	s.ticks(1)
	s.meet(1, 3)
	s.ticks(1)
	s.know(3, 2, 2)
	s.know(1, 1, 3)
	l := []body{helloOf(1, 10, 1, 0, 2, 1), helloOf(2, 10, 1, 0, 2, 1), helloOf(3, 10, 1, 0, 2, 1)}
	for _, x := range []renew.Signed{recordOf(wide(), 2, 0), recordOf(wide(), 2, 1), recordOf(wide(), 3, 0)} {
		// Cut, as a record is longer than 700 bytes.
		for _, id := range []int{1, 3} {
			l = append(l, cut(renewalOf(id, x), s.r.sent+uint32(3+1+(len(l)-3)/2), 700)...)
		}
	}
	s.tick("flood", l...)
	s.tick("flooded", l[:3]...)
	s.meet(1, 2, 3)
	s.tick("too late", helloOf(1, 14, 1, 0, 2, 1), helloOf(2, 14, 1, 0, 2, 1), helloOf(3, 14, 1, 0, 2, 1),
		updateOf(1, false, s.own(api.Key{})), updateOf(2, false, s.own(api.Key{})), updateOf(3, false, s.own(api.Key{})))
}

// long are rules under which a record isn't cut.
func long() Rules {
	r := wide()
	r.Most = 2000
	return r
}

// P25.2: what a live neighbour wants, by its last hello, it gets once, if it is known.
func TestWants(t *testing.T) {
	s := play(t, long(), 1, 2)
	s.ticks(1)
	s.meet(2)
	s.know(2, 3, 2)
	s.ticks(1)
	hellos := []body{helloOf(1, 6, 1, 0, 3, 0), helloOf(2, 6, 1, 0, 3, 0)}
	s.take("hello", helloOf(1, 1, 0, 0, 1, 0), api.OK, count.Hellos)
	s.take("hello", helloOf(2, 1, 1, 0, 3, 0), api.OK, count.Hellos)
	own := s.own(api.Key{})
	s.tick("wants", append(hellos, renewalOf(1, recordOf(long(), 0, 0)), renewalOf(1, recordOf(long(), 2, 1)), updateOf(1, false, own), updateOf(2, false, own))...)
	s.tick("has", hellos...)
	// Only the last hello counts.
	s.take("hello", helloOf(1, 1, 0, 0, 0, 0), api.OK, count.Hellos)
	s.take("hello", helloOf(1, 1, 9, 9, 2, 9, 0, 0, 0, 0), api.OK, count.Hellos)
	s.take("hello", helloOf(2, 1, 0), api.OK, count.Hellos)
	s.tick("wants again", append(hellos, renewalOf(1, recordOf(long(), 2, 2)), renewalOf(2, recordOf(long(), 0, 0)))...)
	s.tick("has again", hellos...)
}

// P25.2: what isn't known when it is due isn't wanted any more, till the next hello.
func TestWantsOfUnknown(t *testing.T) {
	s := play(t, long(), 1, 2)
	s.ticks(1)
	s.meet(1, 2)
	s.ticks(1)
	s.take("hello", helloOf(1, 1, 1, 0, 0, 0), api.OK, count.Hellos)
	s.tick("unknown", helloOf(1, 6, 1, 0, 0, 0), helloOf(2, 6, 1, 0, 0, 0))
	s.know(2, 1, 3)
	x := recordOf(long(), 3, 0)
	s.tick("known", helloOf(1, 6, 1, 0, 0, 1), helloOf(2, 6, 1, 0, 0, 1), renewalOf(1, x), renewalOf(2, x))
	// Flooded, and wanted: twice.
	s.take("hello", helloOf(1, 1, 1, 0, 0, 1), api.OK, count.Hellos)
	s.take("record", renewalOf(2, recordOf(long(), 3, 1)), api.OK, count.Renewals)
	x = recordOf(long(), 3, 1)
	s.tick("both", helloOf(1, 6, 1, 0, 0, 2), helloOf(2, 6, 1, 0, 0, 2), renewalOf(1, x), renewalOf(2, x), renewalOf(1, x))
}

// P25.2: a neighbour that isn't live gets nothing that it wants; behind another boot nothing is wanted.
func TestWantsOfOthers(t *testing.T) {
	s := play(t, long(), 1)
	s.ticks(1)
	s.take("hello", helloOf(1, 2, 0), api.OK, count.Hellos)
	s.tick("not live", helloOf(1, 2, 1, 0, 0, 0))
	s.meet(1)
	s.tick("live", helloOf(1, 2, 1, 0, 0, 0), updateOf(1, false, s.own(api.Key{})))
	s.take("hello", helloOf(1, 1, 0), api.OK, count.Hellos)
	s.boots[1], s.counts[1] = 2, 0
	s.take("another boot", updateOf(1, false), api.OK, count.Updates)
	s.tick("booted", helloOf(1, 2, 1, 0, 0, 0))
	s.take("hello", helloOf(1, 1, 0), api.OK, count.Hellos)
	s.take("the same boot", updateOf(1, false), api.OK, count.Updates)
	s.tick("wanted", helloOf(1, 2, 1, 0, 0, 0), renewalOf(1, recordOf(long(), 0, 0)))
}

// P25.2: behind Rotate ticks the next own sequence begins, told at once; with another epoch its record is issued, and flooded.
func TestRotate(t *testing.T) {
	r := long()
	r.Rotate, r.Spring.Height, r.Peer.Dead = 3, 1, 1000
	s := play(t, r, 1)
	s.meet(1)
	hello := func(next uint32) body { return helloOf(1, 2, next, 0, 0, 0) }
	x := renewalOf(1, recordOf(r, 0, 0))
	s.tick("1", hello(1), x, updateOf(1, true, s.own(key(0, 0, 0))))
	s.tick("2", hello(1))
	s.tick("3", hello(1))
	s.tick("4", hello(1), updateOf(1, false, s.own(key(0, 1, 0))))
	s.ticks(2)
	x = renewalOf(1, recordOf(r, 0, 1))
	s.tick("7", hello(2), x, updateOf(1, false, s.own(key(1, 0, 0))))
	if k, ok := s.r.Own(); k != key(1, 0, 0) || !ok || s.r.Spent() != 2 || s.r.Roots(0) != 2 {
		t.Errorf("Own: %v, %v, spent %d, roots %d", k, ok, s.r.Spent(), s.r.Roots(0))
	}
	// Whoever says that it lacks the record as that is flooded gets it twice.
	s.ticks(2)
	s.tick("10", hello(2), updateOf(1, false, s.own(key(1, 1, 0))))
	s.ticks(2)
	s.take("hello", helloOf(1, 1, 2), api.OK, count.Hellos)
	x = renewalOf(1, recordOf(r, 0, 2))
	s.tick("13", hello(3), x, x, updateOf(1, false, s.own(key(2, 0, 0))))
}

// P25.2, P25.5: in another boot the own sequence is behind the reserve; the record that is there isn't issued again.
func TestRotateAgain(t *testing.T) {
	r := long()
	r.Rotate, r.Spring.Height = 1, 1
	s := play(t, r, 1)
	s.ticks(1)
	s.again()
	if _, ok := s.r.Own(); ok || s.r.Roots(0) != 1 || s.r.Spent() != 1 || s.r.Boot() != 2 {
		t.Errorf("again: roots %d, spent %d, boot %d", s.r.Roots(0), s.r.Spent(), s.r.Boot())
	}
	s.meet(1)
	s.tick("again", helloOf(1, 2, 1, 0, 0, 0), updateOf(1, true, s.own(key(0, 1, 0))))
	s.again()
	s.boots[1] = 2
	s.meet(1)
	s.tick("and again", helloOf(1, 2, 2, 0, 0, 0), renewalOf(1, recordOf(r, 0, 1)), updateOf(1, true, s.own(key(1, 0, 0))))
	if s.r.Spent() != 2 || s.r.Boot() != 3 {
		t.Errorf("and again: spent %d, boot %d", s.r.Spent(), s.r.Boot())
	}
}

// P25.2: behind a reserve of a later epoch than the records are of, these are issued up to it, each by its own spring and key.
func TestRotateFillsGaps(t *testing.T) {
	r := long()
	s := play(t, r, 1)
	is(t, "Reserve", s.r.vow.Reserve(key(2, 3, 0)), api.OK)
	is(t, "Spend", s.r.vow.Spend(1), api.OK)
	s.again()
	s.meet(1)
	l := []body{helloOf(1, 2, 4, 0, 0, 0)}
	for epoch := range uint32(4) {
		l = append(l, renewalOf(1, recordOf(r, 0, epoch)))
	}
	s.tick("gaps", append(l, updateOf(1, true, s.own(key(3, 0, 0))))...)
	if s.r.Spent() != 4 || s.r.Roots(0) != 4 {
		t.Errorf("spent %d, roots %d", s.r.Spent(), s.r.Roots(0))
	}
}

// P25.2: behind the last sequence of all none begins, and the last one stays.
func TestRotateSpent(t *testing.T) {
	s := play(t, wide(), 1)
	is(t, "Reserve", s.r.vow.Reserve(key(api.MaxEpoch, 3, 0)), api.OK)
	s.again()
	s.meet(1)
	for range 2 {
		s.tick("none", helloOf(1, 2, 0, 0, 0, 0))
	}
	if k, ok := s.r.Own(); ok || k != (api.Key{}) {
		t.Errorf("Own: %v", k)
	}
	s = play(t, wide(), 1)
	s.ticks(1)
	s.r.own.key, s.r.own.began = key(api.MaxEpoch, 3, 0), -1000
	s.ticks(2)
	if k, ok := s.r.Own(); !ok || k != key(api.MaxEpoch, 3, 0) {
		t.Errorf("Own: %v, %v", k, ok)
	}
}

// P25.2: all is told each Period; news in between, first ones at once, others as soon as they have settled.
func TestDue(t *testing.T) {
	r := wide()
	r.Settle.Period, r.Settle.Settle, r.Peer.Dead = 10, 2, 1000
	s := play(t, r, 1, 2)
	s.meet(1, 2)
	s.know(1, 1, 1, 2, 3)
	s.ticks(1)
	s.offer(1, 3, key(0, 0, 3))
	hellos := []body{helloOf(1, 6, 1, 1, 1, 1), helloOf(2, 6, 1, 1, 1, 1)}
	tick := func(what string, full bool, l ...frame.Entry) {
		t.Helper()
		var updates []body
		if len(l) > 0 {
			updates = []body{updateOf(1, full, l...), updateOf(2, full, l...)}
		}
		s.tick(what, append(updates[:0:0], append(hellos, updates...)...)...)
	}
	tick("2: first", false, s.passed(3, key(0, 0, 4)))
	s.offer(2, 3, key(0, 0, 2))
	// The sequence was noted first at 1, so it has settled.
	tick("3: nearer", false, s.passed(3, key(0, 0, 3)))
	s.offer(2, 3, key(0, 1, 2))
	tick("4: newer", false)
	s.offer(1, 3, key(0, 1, 1))
	tick("5: settled", false, s.passed(3, key(0, 1, 2)))
	s.take("kept", s.claims(2, 3, key(0, 1, 1)), api.OK, count.Updates, count.Entries)
	s.take("fresh", s.claims(1, 3, key(0, 1, 1)), api.OK, count.Updates, count.Entries)
	tick("6: no news", false)
	s.offer(1, 2, key(0, 0, 3))
	s.offer(1, 1, key(0, 0, 0))
	tick("7: two", false, s.passed(1, key(0, 0, 1)), s.passed(2, key(0, 0, 4)))
	s.ticks(3)
	tick("11: all", true, s.own(key(0, 0, 0)), s.passed(1, key(0, 0, 1)), s.passed(2, key(0, 0, 4)), s.passed(3, key(0, 1, 2)))
	s.ticks(9)
	tick("21: all", true, s.own(key(0, 0, 0)), s.passed(1, key(0, 0, 1)), s.passed(2, key(0, 0, 4)), s.passed(3, key(0, 1, 2)))
}

// P25.2, P25.4: a route is a floor as soon as it is told, not before; what is offered below it goes.
func TestFloors(t *testing.T) {
	s := play(t, wide(), 1, 2, 3)
	s.meet(1, 2, 3)
	s.know(1, 1, 1, 2, 3)
	s.ticks(1)
	s.offer(1, 3, key(0, 0, 2))
	s.take("kept", s.claims(2, 3, key(0, 0, 3)), api.OK, count.Updates, count.Entries)
	s.floor("offered", 3, api.Key{})
	s.ticks(1)
	s.floor("told", 3, key(0, 0, 3))
	s.floor("another one", 2, api.Key{})
	s.take("below the floor", s.claims(2, 3, key(0, 0, 3)), api.ErrOld, count.Updates, count.Entries, count.Stale)
	// The other offer went as that was told: behind the break there is none.
	s.take("hears no more", helloOf(1, 0), api.OK, count.Hellos)
	s.lost("broken", 3)
	s.floor("broken", 3, key(0, 0, 3))
	s.ticks(1)
	s.floor("broken", 3, key(0, 0, 3))
	// At the floor is allowed.
	s.offer(2, 3, key(0, 0, 2))
	s.route("at the floor", 3, 2, key(0, 0, 3))
	s.again()
	s.floor("again", 3, key(0, 0, 3))
	s.lost("again", 3)
	if k, ok := s.r.Floor(0); ok {
		t.Errorf("a floor of itself: %v", k)
	}
}

// P25.2: floors are raised though nobody is live; those of all routes when all is told.
func TestFloorsOfAll(t *testing.T) {
	r := wide()
	r.Settle.Period, r.Settle.Settle = 3, 100
	s := play(t, r, 1, 2)
	s.meet(1, 2)
	s.know(1, 1, 1, 2, 3)
	s.ticks(1)
	s.offer(1, 2, key(0, 0, 1))
	s.offer(1, 3, key(0, 0, 1))
	s.ticks(1)
	s.meet(1, 2)
	s.offer(1, 3, key(0, 1, 1))
	s.ticks(1)
	s.floor("not settled", 3, key(0, 0, 2))
	s.ticks(1)
	s.floor("all", 3, key(0, 1, 2))
	s.floor("all", 2, key(0, 0, 2))
}

// P25.2: what can't be told, as the ladder is no longer, is no floor.
func TestFloorsOfTheLastRung(t *testing.T) {
	r := wide()
	r.Spring.Steps = 3
	s := play(t, r, 1)
	s.meet(1)
	s.know(1, 1, 2, 3)
	s.ticks(1)
	s.offer(1, 2, key(0, 0, 1))
	s.offer(1, 3, key(0, 0, 2))
	l := s.updates()
	if len(l) != 1 || len(l[0].Entries) != 1 || l[0].Entries[0].Dest != 2 {
		t.Errorf("told %v", l)
	}
	s.route("the last rung", 3, 1, key(0, 0, 3))
	s.floor("told", 2, key(0, 0, 2))
	s.floor("not told", 3, api.Key{})
}

// P25.2: behind Dead ticks of silence routes break; who has another one goes by that one.
func TestSilence(t *testing.T) {
	r := wide()
	r.Settle.Settle = 100
	s := play(t, r, 1, 2)
	s.meet(1, 2)
	s.know(1, 1, 2, 3)
	s.ticks(1)
	s.meet(2)
	s.offer(1, 2, key(0, 0, 2))
	s.offer(1, 3, key(0, 0, 2))
	s.ticks(2)
	s.floor("told", 3, key(0, 0, 3))
	// Nothing is told of it yet, so the other one's offer isn't below the floor.
	s.offer(1, 3, key(0, 1, 1))
	s.take("kept", s.claims(2, 3, key(0, 0, 1)), api.OK, count.Updates, count.Entries)
	s.ticks(2)
	s.route("lives", 2, 1, key(0, 0, 3))
	s.route("lives", 3, 1, key(0, 1, 2))
	s.meet(2)
	s.ticks(1)
	s.lost("silent", 2)
	s.route("silent", 3, 2, key(0, 0, 2))
	s.floor("told", 3, key(0, 0, 2))
	if l := s.r.Live(); len(l) != 1 || l[0] != 2 {
		t.Errorf("Live: %v", l)
	}
	s.meet(1)
	s.take("held down", s.claims(1, 3, key(0, 1, 1)), api.ErrHold, count.Updates, count.Entries, count.Held)
}

// P25.2: the other route is told with the tick at which the first one breaks.
func TestSilenceIsTold(t *testing.T) {
	r := wide()
	r.Settle.Settle = 100
	s := play(t, r, 1, 2)
	s.meet(1, 2)
	s.know(1, 1, 1, 3)
	s.offer(2, 3, key(0, 0, 1))
	s.ticks(1)
	s.meet(2)
	s.take("nearer", s.claims(1, 3, key(0, 0, 0)), api.OK, count.Updates, count.Entries, count.Taken)
	s.ticks(2)
	s.meet(2)
	s.floor("not settled", 3, key(0, 0, 2))
	s.tick("broken", helloOf(1, 4, 1, 1, 0, 1), helloOf(2, 4, 1, 1, 0, 1), updateOf(2, false, s.passed(3, key(0, 0, 2))))
	s.route("broken", 3, 2, key(0, 0, 2))
}

// P25.2: where two fall silent at once, the one's routes don't go on by the other one's.
func TestSilenceOfTwo(t *testing.T) {
	s := play(t, wide(), 1, 2, 3)
	s.meet(1, 2, 3)
	s.know(1, 1, 1, 3)
	s.ticks(1)
	s.meet(3)
	s.offer(1, 3, key(0, 0, 1))
	s.take("kept", s.claims(2, 3, key(0, 0, 2)), api.OK, count.Updates, count.Entries)
	s.r.plan.Due(1) // as if it had been told, without a floor
	s.ticks(2)
	s.meet(3)
	s.tick("silent", helloOf(1, 8, 1, 1, 0, 1), helloOf(2, 8, 1, 1, 0, 1), helloOf(3, 8, 1, 1, 0, 1))
	s.lost("silent", 3)
}

// P25.2: behind Life ticks what nobody told again expires, ahead of what is told.
func TestExpire(t *testing.T) {
	r := wide()
	r.Rib.Life, r.Peer.Dead, r.Settle.Period = 4, 1000, 5
	s := play(t, r, 1)
	s.meet(1)
	s.know(1, 1, 2, 3)
	s.ticks(1)
	s.offer(1, 2, key(0, 0, 1))
	s.offer(1, 3, key(0, 0, 1))
	s.ticks(2)
	s.take("fresh", s.claims(1, 3, key(0, 0, 1)), api.OK, count.Updates, count.Entries)
	s.ticks(1)
	s.route("lives", 2, 1, key(0, 0, 2))
	s.ticks(1)
	s.lost("old", 2)
	s.route("lives", 3, 1, key(0, 0, 2))
	s.tick("all", helloOf(1, 2, 1, 0, 1, 1), updateOf(1, true, s.own(api.Key{}), s.passed(3, key(0, 0, 2))))
	s.take("held down", s.claims(1, 2, key(0, 0, 1)), api.ErrHold, count.Updates, count.Entries, count.Held)
}

// P25.2: bodies that are longer than Most come in pieces, numbered one by one, whoever they are for, and whether they are cut or not.
func TestPiecesOut(t *testing.T) {
	r := wide()
	r.Most = 64
	s := play(t, r, 1, 2)
	s.meet(1, 2)
	x := recordOf(r, 0, 0)
	own := s.own(api.Key{})
	l := []body{helloOf(1, 6, 1, 0, 0, 0), helloOf(2, 6, 1, 0, 0, 0)}
	l = append(append(l, cut(renewalOf(1, x), 3, 64)...), cut(renewalOf(2, x), 4, 64)...)
	l = append(append(l, cut(updateOf(1, true, own), 5, 64)...), cut(updateOf(2, true, own), 6, 64)...)
	s.tick("first", l...)
	s.meet(1, 2)
	s.know(1, 1, 1)
	s.ticks(1) // the numbers 7 to 10: two hellos, two records
	s.offer(1, 1, key(0, 0, 0))
	u := s.passed(1, key(0, 0, 1))
	l = []body{helloOf(1, 6, 1, 1, 0, 0), helloOf(2, 6, 1, 1, 0, 0)}
	l = append(append(l, cut(updateOf(1, false, u), 13, 64)...), cut(updateOf(2, false, u), 14, 64)...)
	s.tick("third", l...)
}

// P25.2: what is told is cut into updates of Most, each in turn to all.
func TestUpdatesOut(t *testing.T) {
	r := wide()
	own, one, two := claimOf(r, 0, api.Key{}, 0), claimOf(r, 1, key(0, 0, 1), 0), claimOf(r, 2, key(0, 0, 2), 0)
	most := len(updateOf(1, true, own, one).text)
	for most, want := range map[int][][]frame.Entry{most: {{own, one}, {two}}, most - 1: {{own}, {one}, {two}}} {
		r.Most = most
		s := play(t, r, 1, 2)
		s.meet(1, 2)
		s.know(1, 1, 1, 2)
		s.offer(1, 1, key(0, 0, 0))
		s.offer(2, 2, key(0, 0, 1))
		got := slices.DeleteFunc(s.told(), func(x body) bool { return x.kind != frame.IsUpdate })
		var all []body
		for _, l := range want {
			all = append(all, updateOf(1, true, l...), updateOf(2, true, l...))
		}
		if !slices.EqualFunc(got, all, same) {
			t.Errorf("Most %d: %v, not %v", most, got, all)
		}
	}
}

// P25.2: a neighbour that fell silent, and comes again, is held down, but for news.
func TestHeldDown(t *testing.T) {
	s := play(t, wide(), 1)
	s.meet(1)
	s.know(1, 1, 1)
	s.ticks(1)
	s.offer(1, 1, key(0, 0, 0))
	s.ticks(2)
	s.route("lives", 1, 1, key(0, 0, 1))
	s.ticks(1)
	s.lost("silent", 1)
	s.take("not live", s.claims(1, 1, key(0, 0, 0)), api.ErrState, count.Updates, count.Stale)
	s.meet(1)
	s.take("held down", s.claims(1, 1, key(0, 0, 0)), api.ErrHold, count.Updates, count.Entries, count.Held)
	s.offer(1, 1, key(0, 1, 0))
	s.route("news", 1, 1, key(0, 1, 1))
	if x, ok := s.r.Route(1); !ok || x.Since != 4 {
		t.Errorf("the route is of %d", x.Since)
	}
}
