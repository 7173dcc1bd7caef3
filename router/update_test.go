package router

import (
	"fingerpost/api"
	"fingerpost/count"
	"fingerpost/frame"
	"fingerpost/proof"
	"fingerpost/renew"
	"testing"
)

// ready is a stage of live neighbours that has all nodes' first records.
func ready(t *testing.T, r Rules, ids ...int) *stage {
	t.Helper()
	s := play(t, r, ids...)
	s.meet(ids...)
	s.know(ids[0], 1, 1, 2, 3)
	s.ticks(1)
	return s
}

// P25.2: updates, those that are none, and those of whom isn't live.
func TestUpdate(t *testing.T) {
	s := play(t, wide(), 1, 2)
	s.take("not heard yet", s.claims(1, 3, key(0, 0, 1)), api.ErrState, count.Updates, count.Stale)
	s.take("empty, not heard yet", updateOf(1, true), api.ErrState, count.Updates, count.Stale)
	s.meet(1)
	s.take("empty", updateOf(1, true), api.OK, count.Updates)
	s.take("no record", s.claims(1, 3, key(0, 0, 1)), api.ErrNone, count.Updates, count.Entries, count.Rootless)
	s.take("another one", s.claims(2, 3, key(0, 0, 1)), api.ErrState, count.Updates, count.Stale)
	s.know(1, 1, 3)
	s.offer(1, 3, key(0, 0, 1))
	s.take("the next epoch", s.claims(1, 3, key(1, 0, 1)), api.ErrNone, count.Updates, count.Entries, count.Rootless)
	s.take("nothing", body{1, frame.IsUpdate, nil}, api.ErrShort, count.Form)
	s.take("no update", body{1, frame.IsUpdate, []byte{2, 0}}, api.ErrForm, count.Form)
	s.take("too many", body{1, frame.IsUpdate, []byte{1, 9}}, api.ErrLimit, count.Form)
	s.take("a byte too", body{1, frame.IsUpdate, []byte{1, 0, 0}}, api.ErrForm, count.Form)
	s.route("stays", 3, 1, key(0, 0, 2))
}

// P25.2: an entry's errors, in their order; what it comes to.
func TestEntry(t *testing.T) {
	r := wide()
	s := ready(t, r, 1, 2)
	wrong := func(what string, x frame.Entry, want api.Errno, which int) {
		t.Helper()
		s.take(what, updateOf(1, false, x), want, count.Updates, count.Entries, which)
	}
	fine := func(what string, by, dest int, k api.Key, more ...int) {
		t.Helper()
		s.take(what, s.claims(by, dest, k), api.OK, append(more, count.Updates, count.Entries)...)
	}
	wrong("of itself", claimOf(r, 0, key(0, 0, 0), 1), api.ErrOld, count.Stale)
	wrong("of itself, no claim", frame.Entry{Dest: 0, Key: key(0, 63, 15)}, api.ErrOld, count.Stale)
	wrong("of no node", frame.Entry{Dest: 4, Key: key(0, 0, 1)}, api.ErrArg, count.Form)
	wrong("of no sequence", frame.Entry{Dest: 3, Key: key(0, 4, 1)}, api.ErrArg, count.Form)
	wrong("of no rung", frame.Entry{Dest: 3, Key: key(0, 0, 5)}, api.ErrArg, count.Form)
	wrong("of the last metric", frame.Entry{Dest: 3, Key: key(0, 0, 15)}, api.ErrArg, count.Form)
	fine("the last rung", 1, 3, key(0, 0, 4), count.Taken)
	s.route("the last rung", 3, 1, key(0, 0, 5))
	wrong("another one's", claimOf(r, 3, key(0, 0, 3), 2), api.ErrProof, count.Proofs)
	wrong("nearer than shown", frame.Entry{Dest: 3, Key: key(0, 0, 2), Cred: claimOf(r, 3, key(0, 0, 3), 1).Cred}, api.ErrProof, count.Proofs)
	wrong("nothing shown", frame.Entry{Dest: 2, Key: key(0, 0, 1)}, api.ErrProof, count.Proofs)
	fine("nearer", 1, 3, key(0, 0, 3), count.Taken)
	fine("fresh", 1, 3, key(0, 0, 3))
	fine("kept", 2, 3, key(0, 0, 3))
	wrong("farther than it offers", claimOf(r, 3, key(0, 0, 4), 1), api.ErrOld, count.Stale)
	s.ticks(1)
	s.floor("told", 3, key(0, 0, 4))
	fine("at the floor", 2, 3, key(0, 0, 3))
	wrong("below the floor", claimOf(r, 3, key(0, 0, 4), 1), api.ErrOld, count.Stale)
	wrong("below the floor, not shown", frame.Entry{Dest: 3, Key: key(0, 0, 4)}, api.ErrOld, count.Stale)
	fine("newer", 2, 3, key(0, 1, 4), count.Taken)
	s.route("newer", 3, 2, key(0, 1, 5))
	fine("newer, kept", 1, 3, key(0, 1, 4))
	fine("newer, and nearest", 1, 3, key(0, 2, 1), count.Taken)
	s.route("newer, and nearest", 3, 1, key(0, 2, 2))
	wrong("rootless", frame.Entry{Dest: 3, Key: key(1, 0, 1)}, api.ErrNone, count.Rootless)
	wrong("of no epoch's root, of no rung", frame.Entry{Dest: 3, Key: key(9, 0, 5)}, api.ErrArg, count.Form)
}

// P25.4: a route's key is one hop behind what its neighbour showed, for each metric.
func TestEntryHops(t *testing.T) {
	for metric := range 5 {
		s := ready(t, wide(), 1)
		s.offer(1, 3, key(0, 2, metric))
		s.route("shown", 3, 1, key(0, 2, metric+1))
		x, _ := s.r.Route(3)
		if x.Since != 1 || x.Known.Dest != 3 || len(x.Known.Path) != 2 {
			t.Errorf("the metric %d: %v", metric, x)
		}
	}
}

// P25.2: of several entries each comes to its own; an update is refused only if all of its entries are, with the first one's error.
func TestEntries(t *testing.T) {
	r := wide()
	s := ready(t, r, 1, 2)
	own, bad := claimOf(r, 0, key(0, 0, 1), 1), frame.Entry{Dest: 1, Key: key(0, 0, 0)}
	rootless, taken := frame.Entry{Dest: 2, Key: key(3, 0, 0)}, claimOf(r, 3, key(0, 0, 1), 1)
	s.take("all wrong", updateOf(1, true, own, bad, rootless), api.ErrOld,
		count.Updates, count.Entries, count.Entries, count.Entries, count.Stale, count.Proofs, count.Rootless)
	s.take("two wrong", updateOf(1, true, bad, rootless), api.ErrProof,
		count.Updates, count.Entries, count.Entries, count.Proofs, count.Rootless)
	s.take("the last one fine", updateOf(1, true, own, bad, rootless, taken), api.OK,
		count.Updates, count.Entries, count.Entries, count.Entries, count.Entries, count.Stale, count.Proofs, count.Rootless, count.Taken)
	s.take("one fresh", updateOf(1, true, bad, taken), api.OK,
		count.Updates, count.Entries, count.Entries, count.Proofs)
	first := claimOf(r, 1, key(0, 0, 0), 1)
	s.take("the first one fine", updateOf(1, true, first, rootless), api.OK,
		count.Updates, count.Entries, count.Entries, count.Taken, count.Rootless)
	s.take("one wrong twice", updateOf(1, true, rootless, frame.Entry{Dest: 3, Key: key(3, 0, 0)}), api.ErrNone,
		count.Updates, count.Entries, count.Entries, count.Rootless, count.Rootless)
	s.route("taken", 3, 1, key(0, 0, 2))
	s.route("taken", 1, 1, key(0, 0, 1))
}

// P25.2, P25.4: checks are paid by the sender: by the root, or of a sequence of which a farther rung is known by that alone.
func TestEntryTolls(t *testing.T) {
	r := wide()
	rules := r.Spring
	tag := frame.Cost(len(updateOf(1, false, claimOf(r, 3, key(0, 0, 1), 1)).text))
	s := ready(t, r, 1, 2)
	gone := map[int]int{}
	pays := func(what string, by int, x frame.Entry, want api.Errno, cost int, counted ...int) {
		t.Helper()
		s.take(what, updateOf(by, false, x), want, append(counted, count.Updates, count.Entries)...)
		gone[by] += tag + cost
		s.spent(what, 1, gone[1])
		s.spent(what, 2, gone[2])
	}
	pays("first", 1, claimOf(r, 3, key(0, 0, 3), 1), api.OK, proof.Cost(rules, 3), count.Taken)
	pays("fresh", 1, claimOf(r, 3, key(0, 0, 3), 1), api.OK, proof.QuickCost(rules, 3, 4))
	pays("as far", 2, claimOf(r, 3, key(0, 0, 3), 2), api.OK, proof.QuickCost(rules, 3, 4))
	pays("farther", 2, claimOf(r, 3, key(0, 0, 4), 2), api.ErrOld, proof.Cost(rules, 4), count.Stale)
	pays("nearer", 2, claimOf(r, 3, key(0, 0, 1), 2), api.OK, proof.QuickCost(rules, 1, 4), count.Taken)
	pays("not shown", 2, claimOf(r, 3, key(0, 0, 0), 1), api.ErrProof, proof.QuickCost(rules, 0, 2), count.Proofs)
	pays("another sequence", 1, claimOf(r, 3, key(0, 1, 0), 1), api.OK, proof.Cost(rules, 0), count.Taken)
	pays("the elder one", 2, claimOf(r, 3, key(0, 0, 0), 2), api.OK, proof.Cost(rules, 0))
	pays("not shown by the root", 1, claimOf(r, 3, key(0, 2, 4), 2), api.ErrProof, proof.Cost(rules, 4), count.Proofs)
	pays("another destination", 1, claimOf(r, 2, key(0, 1, 2), 1), api.OK, proof.Cost(rules, 2), count.Taken)
	bad := frame.Entry{Dest: 1, Key: key(1, 0, 0)}
	s.take("rootless", updateOf(2, false, bad), api.ErrNone, count.Updates, count.Entries, count.Rootless)
	gone[2] += frame.Cost(len(updateOf(2, false, bad).text))
	s.spent("rootless", 2, gone[2])
	// What was held for these checks isn't owed any more: a record settles its own alone.
	x := recordOf(r, 3, 1)
	s.take("record", renewalOf(2, x), api.OK, count.Renewals)
	s.spent("record", 2, gone[2]+frame.Cost(1125)+renew.Cost(x.Record))
}

// P25.2: of a sequence of which a farther rung is known a claim is held against that: another path isn't taken, whatever the root says.
func TestEntryQuick(t *testing.T) {
	r := wide()
	s := ready(t, r, 1, 2)
	s.offer(1, 3, key(0, 0, 2))
	x := claimOf(r, 3, key(0, 0, 1), 2)
	x.Cred.Path[0][0] ^= 1
	s.take("another path", updateOf(2, false, x), api.ErrProof, count.Updates, count.Entries, count.Proofs)
	x = claimOf(r, 3, key(0, 0, 1), 2)
	x.Cred.Path = x.Cred.Path[:1]
	s.take("a shorter path", updateOf(2, false, x), api.ErrProof, count.Updates, count.Entries, count.Proofs)
	x = claimOf(r, 3, key(0, 0, 1), 2)
	x.Cred.Way = x.Cred.Way[:1]
	s.take("a shorter way", updateOf(2, false, x), api.ErrProof, count.Updates, count.Entries, count.Proofs)
	s.offer(2, 3, key(0, 0, 1))
	s.route("shown", 3, 2, key(0, 0, 2))
	// A root that isn't the epoch's own is of no account then.
	s.r.trusts[3] = s.r.trusts[2]
	s.offer(1, 3, key(0, 0, 0))
	s.take("as far as is known", s.claims(2, 3, key(0, 0, 1)), api.ErrProof, count.Updates, count.Entries, count.Proofs)
}

// P25.2, P25.4: behind a claim whose check can't be paid no entry is looked at; what was taken ahead of it stays.
func TestEntryUnpaid(t *testing.T) {
	r := wide()
	l := []frame.Entry{claimOf(r, 1, key(0, 0, 0), 1), claimOf(r, 2, key(0, 0, 0), 1), claimOf(r, 3, key(0, 0, 4), 1)}
	u := updateOf(1, true, l...)
	tag, cost := frame.Cost(len(u.text)), proof.Cost(r.Spring, 0)
	for blocks, x := range map[int]struct {
		want    api.Errno
		counted []int
		routes  int
	}{
		tag:                                    {api.ErrToll, []int{count.Entries, count.Tolls}, 0},
		tag + cost - 1:                         {api.ErrToll, []int{count.Entries, count.Tolls}, 0},
		tag + cost:                             {api.OK, []int{count.Entries, count.Taken, count.Entries, count.Tolls}, 1},
		tag + 2*cost - 1:                       {api.OK, []int{count.Entries, count.Taken, count.Entries, count.Tolls}, 1},
		tag + 2*cost:                           {api.OK, []int{count.Entries, count.Taken, count.Entries, count.Taken, count.Entries, count.Tolls}, 2},
		tag + 2*cost + proof.Cost(r.Spring, 4): {api.OK, []int{count.Entries, count.Taken, count.Entries, count.Taken, count.Entries, count.Taken}, 3},
	} {
		s := play(t, r, 1, 2)
		s.meet(1, 2)
		s.know(2, 1, 1, 2, 3)
		_, left := s.r.peers.Toll(1).Left()
		is(t, "Frame", s.r.peers.Toll(1).Frame(left-blocks), api.OK)
		s.take("all", u, x.want, append(x.counted, count.Updates)...)
		if n := len(s.r.Fib()); n != x.routes {
			t.Errorf("%d blocks: %d routes, not %d", blocks, n, x.routes)
		}
		other := claimOf(r, 3, key(0, 0, 1), 2)
		s.take("by another one", updateOf(2, false, other), api.OK, count.Updates, count.Entries, count.Taken)
	}
}

// P25.2: rootless and wrong entries don't stand behind what can't be paid ahead of them.
func TestEntryUnpaidBehindOthers(t *testing.T) {
	r := wide()
	u := updateOf(1, true, claimOf(r, 0, key(0, 0, 1), 1), claimOf(r, 1, key(0, 0, 0), 1), frame.Entry{Dest: 2, Key: key(9, 0, 0)})
	s := play(t, r, 1)
	s.meet(1)
	s.know(1, 1, 1)
	_, left := s.r.peers.Toll(1).Left()
	is(t, "Frame", s.r.peers.Toll(1).Frame(left-frame.Cost(len(u.text))), api.OK)
	s.take("all wrong", u, api.ErrOld, count.Updates, count.Entries, count.Entries, count.Stale, count.Tolls)
}

// P25.2: the first claim is told at once, a nearer one settles.
func TestEntryIsNoted(t *testing.T) {
	r := wide()
	r.Settle.Settle = 2
	s := ready(t, r, 1, 2)
	s.offer(1, 3, key(0, 0, 3))
	if l := s.r.plan.Waits(); len(l) != 1 || l[0] != 3 {
		t.Errorf("%v wait", l)
	}
	if at, ok := s.r.plan.Next(); at != 0 || !ok {
		t.Errorf("the first one waits till %d", at)
	}
	s.ticks(1)
	s.offer(2, 3, key(0, 1, 3))
	if at, ok := s.r.plan.Next(); at != 4 || !ok {
		t.Errorf("a newer one waits till %d", at)
	}
	s.take("kept", s.claims(1, 3, key(0, 1, 3)), api.OK, count.Updates, count.Entries)
	s.ticks(2)
	s.floor("settled", 3, key(0, 1, 4))
	if l := s.r.plan.Waits(); len(l) != 0 {
		t.Errorf("%v wait", l)
	}
}
