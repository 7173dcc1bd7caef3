package settle

import (
	"fingerpost/api"
	"math"
	"slices"
	"testing"
)

const maxTick = 1 << 40

// noTimes are no times.
var noTimes = []int64{-1, -2, maxTick + 1, 1 << 41, math.MaxInt64, math.MinInt64}

func made(t *testing.T, period, settle int) *Plan {
	t.Helper()
	p, e := New(Rules{Period: period, Settle: settle})
	if p == nil || e != api.OK {
		t.Fatalf("New(%d, %d): %v, %d", period, settle, p, e)
	}
	return p
}

// told is a plan by which all was told at a time.
func told(t *testing.T, period, settle int, now int64) *Plan {
	t.Helper()
	p := made(t, period, settle)
	all(t, "all", p, now)
	return p
}

func key(epoch, seq uint32, metric int) api.Key {
	return api.Key{Epoch: epoch, Seq: seq, Metric: metric}
}

func note(t *testing.T, p *Plan, now int64, dest int, k api.Key, urgent bool) {
	t.Helper()
	if e := p.Note(now, dest, k, urgent); e != api.OK {
		t.Errorf("Note(%d, %d, %v, %v): %d", now, dest, k, urgent, e)
	}
}

// all holds a plan to telling all.
func all(t *testing.T, what string, p *Plan, now int64) {
	t.Helper()
	if full, l := p.Due(now); !full || len(l) != 0 {
		t.Errorf("%s: Due(%d): %v, %v", what, now, full, l)
	}
}

// due holds a plan to what it tells, where that isn't all.
func due(t *testing.T, what string, p *Plan, now int64, want ...int) {
	t.Helper()
	if full, l := p.Due(now); full || !slices.Equal(l, want) {
		t.Errorf("%s: Due(%d): %v, %v, not %v", what, now, full, l, want)
	}
}

func waits(t *testing.T, what string, p *Plan, want ...int) {
	t.Helper()
	if l := p.Waits(); !slices.Equal(l, want) {
		t.Errorf("%s: %v wait, not %v", what, l, want)
	}
}

func next(t *testing.T, what string, p *Plan, want int64) {
	t.Helper()
	if n, ok := p.Next(); !ok || n != want {
		t.Errorf("%s: Next: %d, %v, not %d", what, n, ok, want)
	}
}

// P20.1: each rule at its edges; what may not be isn't made.
func TestRules(t *testing.T) {
	for _, x := range []struct {
		period, settle int
		ok             bool
	}{
		{1, 0, true}, {1 << 20, 0, true}, {1, 1 << 20, true}, {1 << 20, 1 << 20, true}, {10, 3, true}, {3, 10, true},
		{0, 5, false}, {-1, 5, false}, {1<<20 + 1, 5, false}, {math.MaxInt, 5, false}, {math.MinInt, 5, false}, {1<<32 + 1, 5, false},
		{5, -1, false}, {5, 1<<20 + 1, false}, {5, math.MaxInt, false}, {5, math.MinInt, false}, {5, 1 << 32, false}, {0, 0, false},
	} {
		r := Rules{Period: x.period, Settle: x.settle}
		if Right(r) != x.ok {
			t.Errorf("Right(%v): %v", r, !x.ok)
		}
		if p, e := New(r); (p != nil) != x.ok || (e == api.OK) != x.ok || !x.ok && e != api.ErrArg {
			t.Errorf("New(%v): %v, %d", r, p, e)
		}
	}
}

// P20.1, P20.2: the chapter's example.
func TestExample(t *testing.T) {
	p := made(t, 10, 3)
	all(t, "the first time", p, 0)
	note(t, p, 1, 2, key(0, 1, 1), false)
	due(t, "not settled", p, 2)
	note(t, p, 3, 2, key(0, 1, 0), false)
	due(t, "settled", p, 4, 2)
	note(t, p, 5, 2, key(0, 2, 9), true)
	due(t, "urgent", p, 5, 2)
}

// P20.2, P20.3: all is told at first, whenever that is; from then on by periods.
func TestPeriod(t *testing.T) {
	for _, first := range []int64{0, 1, 77, maxTick - 20} {
		p := made(t, 10, 3)
		next(t, "never told", p, 0)
		waits(t, "never told", p)
		all(t, "the first time", p, first)
		next(t, "told", p, first+10)
		due(t, "at once", p, first)
		due(t, "one tick ahead", p, first+9)
		next(t, "told", p, first+10)
		all(t, "a period", p, first+10)
		due(t, "at once", p, first+10)
		due(t, "one tick ahead", p, first+19)
		all(t, "a period", p, first+20)
		next(t, "told", p, first+30)
	}
	p := told(t, 10, 3, 0)
	all(t, "late", p, 1000)
	due(t, "from then on", p, 1009)
	due(t, "earlier", p, 5)
	all(t, "a period", p, 1010)
	p = told(t, 1, 0, 5)
	all(t, "each tick", p, 6)
	all(t, "each tick", p, 7)
	p = told(t, 1<<20, 0, maxTick-1<<20)
	due(t, "one tick ahead", p, maxTick-1)
	all(t, "the greatest", p, maxTick)
	next(t, "the greatest", p, maxTick+1<<20)
}

// P20.2: news settle for as many ticks, from first on.
func TestSettle(t *testing.T) {
	for _, settle := range []int{0, 1, 3, 50, 1 << 20} {
		p := told(t, 1<<20, settle, 100)
		note(t, p, 101, 4, key(0, 1, 1), false)
		waits(t, "noted", p, 4)
		next(t, "noted", p, min(100+1<<20, 101+int64(settle)))
		if settle > 0 && settle < 1<<20 {
			due(t, "one tick ahead", p, 100+int64(settle))
			waits(t, "not settled", p, 4)
		}
		if settle < 1<<20 {
			due(t, "settled", p, 101+int64(settle), 4)
		} else {
			all(t, "the period is ahead", p, 100+int64(settle))
		}
		waits(t, "told", p)
	}
}

// P20.1: of a sequence that is noted first stays, whatever else is noted of it, or of an older one; a newer one sets it.
func TestFirst(t *testing.T) {
	for _, x := range []struct {
		k     api.Key
		first int64
	}{
		{key(2, 5, 7), 10}, {key(2, 5, 0), 10}, {key(2, 5, 15), 10}, {key(2, 4, 7), 10}, {key(1, 63, 0), 10},
		{key(2, 6, 15), 14}, {key(2, 6, 0), 14}, {key(3, 0, 7), 14},
	} {
		p := told(t, 1000, 30, 0)
		note(t, p, 10, 3, key(2, 5, 7), false)
		note(t, p, 14, 3, x.k, false)
		waits(t, "noted", p, 3)
		next(t, "noted", p, x.first+30)
		due(t, "one tick ahead", p, x.first+29)
		due(t, "settled", p, x.first+30, 3)
		note(t, p, 60, 3, x.k, false)
		next(t, "told, and noted again", p, x.first+30)
		due(t, "it settled long ago", p, 60, 3)
		due(t, "once", p, 61)
	}
}

// P20.1: the last key is what was noted last, even if it is an older one.
func TestLastKey(t *testing.T) {
	p := told(t, 1000, 30, 0)
	note(t, p, 10, 3, key(2, 5, 7), false)
	note(t, p, 11, 3, key(2, 4, 7), false)
	next(t, "older", p, 40)
	note(t, p, 12, 3, key(2, 5, 7), false)
	next(t, "newer than that", p, 42)
}

// P20.1: the zero key is noted like others: what is none isn't newer or older than it.
func TestZeroKey(t *testing.T) {
	p := told(t, 1000, 30, 0)
	note(t, p, 10, 3, api.Key{}, false)
	next(t, "the first one", p, 40)
	note(t, p, 11, 3, api.Key{}, false)
	next(t, "the same one", p, 40)
	note(t, p, 12, 3, api.Key{Seq: 1}, false)
	next(t, "newer", p, 42)
}

// P20.1, P20.2: what is urgent stays so till it is told, and no longer.
func TestUrgent(t *testing.T) {
	p := told(t, 1000, 30, 0)
	note(t, p, 10, 3, key(0, 1, 1), true)
	note(t, p, 10, 5, key(0, 1, 1), false)
	next(t, "urgent", p, 0)
	note(t, p, 11, 3, key(0, 1, 2), false)
	note(t, p, 11, 3, key(0, 2, 2), false)
	next(t, "urgent still", p, 0)
	waits(t, "both", p, 3, 5)
	due(t, "urgent", p, 11, 3)
	waits(t, "the other one", p, 5)
	next(t, "the other one", p, 40)
	note(t, p, 12, 3, key(0, 3, 2), false)
	due(t, "not urgent any more", p, 12)
	note(t, p, 13, 5, key(0, 1, 1), true)
	due(t, "urgent now", p, 13, 5)
	due(t, "earlier than noted, but urgent no more", p, 41)
	due(t, "settled", p, 42, 3)
}

// P20.2: where all is told, nothing waits, and nothing is urgent, any more; what was noted, and when first, stays.
func TestAllIsTold(t *testing.T) {
	p := made(t, 100, 30)
	note(t, p, 5, 3, key(0, 1, 1), true)
	note(t, p, 5, 6, key(0, 1, 1), false)
	waits(t, "ahead of all", p, 3, 6)
	next(t, "never told", p, 0)
	all(t, "all", p, 6)
	waits(t, "all was told", p)
	next(t, "all was told", p, 106)
	due(t, "nothing waits", p, 50)
	note(t, p, 20, 3, key(0, 1, 0), false)
	waits(t, "noted", p, 3)
	next(t, "first was 5, and it isn't urgent", p, 35)
	due(t, "not settled", p, 34)
	due(t, "settled", p, 35, 3)
	note(t, p, 60, 3, key(0, 1, 2), false)
	note(t, p, 100, 6, key(0, 2, 0), true)
	all(t, "the period", p, 106)
	due(t, "nothing waits", p, 107)
}

// P20.2: Due tells what has settled, once, by rising destinations; the others wait on.
func TestDueOnce(t *testing.T) {
	p := told(t, 1000, 10, 0)
	for _, x := range []struct {
		now  int64
		dest int
	}{{9, 7}, {3, 5}, {4, 0}, {8, 2}, {6, 6}} {
		note(t, p, x.now, x.dest, key(0, 1, 1), false)
	}
	note(t, p, 9, 3, key(0, 1, 1), true)
	waits(t, "all", p, 0, 2, 3, 5, 6, 7)
	due(t, "urgent", p, 9, 3)
	next(t, "5", p, 13)
	due(t, "5 and 0", p, 14, 0, 5)
	waits(t, "the others", p, 2, 6, 7)
	next(t, "6", p, 16)
	due(t, "once", p, 14)
	due(t, "the others", p, 19, 2, 6, 7)
	waits(t, "none", p)
	next(t, "the period", p, 1000)
}

// P20.3: the period, where that is ahead of what waits.
func TestNextByPeriod(t *testing.T) {
	p := told(t, 10, 30, 5)
	note(t, p, 6, 3, key(0, 1, 1), false)
	next(t, "the period", p, 15)
	all(t, "the period", p, 15)
	p = told(t, 10, 3, 5)
	note(t, p, 12, 3, key(0, 1, 1), false)
	next(t, "at once", p, 15)
	note(t, p, 11, 4, key(0, 1, 1), false)
	next(t, "ahead of it", p, 14)
	p = told(t, 10, 1<<20, maxTick)
	note(t, p, maxTick, 3, key(0, 1, 1), false)
	next(t, "the period, beyond all times", p, maxTick+10)
}

// P20.2: of no time nothing is done.
func TestNoTime(t *testing.T) {
	never := made(t, 10, 3)
	p := told(t, 10, 3, 5)
	note(t, p, 6, 3, key(0, 1, 1), true)
	for _, now := range noTimes {
		due(t, "never told", never, now)
		due(t, "told", p, now)
	}
	next(t, "never told", never, 0)
	all(t, "never told", never, 9)
	waits(t, "told", p, 3)
	next(t, "told", p, 0)
	due(t, "told", p, 6, 3)
	next(t, "told", p, 15)
}

// Errors
func TestNoteRefuses(t *testing.T) {
	p := told(t, 100, 30, 0)
	note(t, p, 10, 3, key(0, 1, 1), false)
	refused := func(now int64, dest int, k api.Key) {
		t.Helper()
		for _, urgent := range []bool{false, true} {
			if e := p.Note(now, dest, k, urgent); e != api.ErrArg {
				t.Errorf("Note(%d, %d, %v): %d", now, dest, k, e)
			}
		}
	}
	for _, dest := range []int{-1, -2, 8, 9, 1 << 32, 1<<32 + 3, math.MaxInt, math.MinInt} {
		refused(11, dest, key(0, 2, 1))
	}
	for _, now := range noTimes {
		refused(now, 3, key(0, 2, 1))
	}
	for _, k := range []api.Key{{Epoch: 1<<16 + 1}, {Epoch: math.MaxUint32}, {Seq: 1 << 6}, {Seq: math.MaxUint32}, {Metric: -1}, {Metric: 16}, {Metric: math.MaxInt}, {Metric: math.MinInt}} {
		refused(11, 3, k)
		refused(11, 4, k)
	}
	waits(t, "refused", p, 3)
	next(t, "refused", p, 40)
	note(t, p, 12, 3, key(0, 1, 1), false)
	next(t, "the key is the last one still", p, 40)
	for dest := range 8 {
		note(t, p, maxTick, dest, key(1<<16, 63, 15), false)
		note(t, p, 0, dest, api.Key{}, false)
	}
	waits(t, "all", p, 0, 1, 2, 3, 4, 5, 6, 7)
}

// R1, Errors
func TestNilPlan(t *testing.T) {
	var p *Plan
	for _, now := range append(noTimes, 0, 1) {
		for _, dest := range []int{0, 7, -1, 8} {
			if e := p.Note(now, dest, api.Key{Metric: int(now)}, true); e != api.ErrNil {
				t.Errorf("Note: %d", e)
			}
		}
		due(t, "nil", p, now)
	}
	waits(t, "nil", p)
	if n, ok := p.Next(); n != 0 || ok {
		t.Errorf("Next: %d, %v", n, ok)
	}
}

// R1: a plan that nobody made panics neither.
func TestUnmadePlan(t *testing.T) {
	p := &Plan{}
	for _, now := range append(noTimes, 0, 1) {
		p.Note(now, int(now), api.Key{}, false)
		p.Due(now)
		p.Note(now, 2, api.Key{}, true)
		p.Waits()
		p.Next()
	}
}

// R3: what is handed out is new memory.
func TestMemory(t *testing.T) {
	p := told(t, 100, 30, 0)
	note(t, p, 10, 3, key(0, 1, 1), true)
	note(t, p, 10, 5, key(0, 1, 1), true)
	l := p.Waits()
	l[0], l[1] = 7, 7
	waits(t, "an answer was changed", p, 3, 5)
	l = p.Waits()
	due(t, "urgent", p, 10, 3, 5)
	if !slices.Equal(l, []int{3, 5}) {
		t.Errorf("an answer has changed: %v", l)
	}
}
