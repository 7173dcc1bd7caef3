package truth

import (
	"fingerpost/api"
	"fingerpost/proof"
	"math"
	"math/rand"
	"slices"
	"testing"
)

// book is what the chapter's words tell of a ledger: all claims that were shown, in order, and the known seeds.
type book struct {
	shown []proof.Claim
	known []int
}

func (b *book) nearest(dest int, epoch, seq uint32) int {
	near := -1
	for _, c := range b.shown {
		if c.Dest == dest && c.Key.Epoch == epoch && c.Key.Seq == seq && (near < 0 || c.Key.Metric < near) {
			near = c.Key.Metric
		}
	}
	return near
}

func (b *book) may(c proof.Claim) bool {
	return slices.Contains(b.known, c.Dest) || slices.ContainsFunc(b.shown, func(x proof.Claim) bool {
		return x == c || x.Dest == c.Dest && x.Key.Epoch == c.Key.Epoch && x.Key.Seq == c.Key.Seq && x.Key.Metric < c.Key.Metric
	})
}

// domain is a few of each number, the ends among them.
func domain() []proof.Claim {
	var l []proof.Claim
	for _, dest := range []int{0, 1, 7} {
		for _, epoch := range []uint32{0, 1, math.MaxUint32} {
			for _, seq := range []uint32{0, 1, math.MaxUint32} {
				for _, metric := range []int{0, 1, 2, 3, math.MaxInt} {
					for _, sender := range []int{0, 5, -1, math.MinInt} {
						l = append(l, claimed(dest, epoch, seq, metric, sender))
					}
				}
			}
		}
	}
	return l
}

// holds holds a ledger to a book.
func holds(t *testing.T, l *Ledger, b *book, all []proof.Claim) {
	t.Helper()
	for _, c := range all {
		if got, want := l.Nearest(c.Dest, c.Key.Epoch, c.Key.Seq), b.nearest(c.Dest, c.Key.Epoch, c.Key.Seq); got != want {
			t.Fatalf("Nearest of %v: %d, not %d, behind %v", c, got, want, b)
		}
		if got := l.May(c); got != b.may(c) {
			t.Fatalf("May(%v): %v, behind %v", c, got, b)
		}
	}
}

// P28.2: whatever is shown, in whatever order, a ledger tells what the chapter's words do.
func TestLedger(t *testing.T) {
	all := domain()
	for seed := range int64(20) {
		r := rand.New(rand.NewSource(seed))
		l, b := Open(), &book{}
		holds(t, l, b, all)
		// Of a few sequences much is shown, in other runs of many a little.
		from := all[r.Intn(len(all)-60):]
		from = from[:20+r.Intn(40)]
		for step := range 60 {
			if seed%2 == 0 {
				from = all
			}
			c := from[r.Intn(len(from))]
			is(t, "Show", l.Show(c), api.OK)
			b.shown = append(b.shown, c)
			if step%25 == 20 {
				dest := []int{1, 7}[step/25%2]
				is(t, "Whole", l.Whole(dest), api.OK)
				b.known = append(b.known, dest)
			}
			holds(t, l, b, all)
		}
	}
}

// P28.2: the chapter's example: of an empty ledger none; behind the metric 2 of 3 one by anyone, of 2 that one alone.
func TestExample(t *testing.T) {
	l := Open()
	shown := claimed(1, 5, 2, 2, 3)
	for metric := range 5 {
		for sender := range 8 {
			if c := claimed(1, 5, 2, metric, sender); l.May(c) {
				t.Errorf("of an empty ledger: %v", c)
			}
		}
	}
	is(t, "Show", l.Show(shown), api.OK)
	for metric := range 5 {
		for sender := range 8 {
			c := claimed(1, 5, 2, metric, sender)
			if want := metric > 2 || c == shown; l.May(c) != want {
				t.Errorf("May(%v): %v", c, !want)
			}
		}
	}
	for _, c := range []proof.Claim{claimed(0, 5, 2, 3, 3), claimed(1, 4, 2, 3, 3), claimed(1, 6, 2, 3, 3), claimed(1, 5, 1, 3, 3), claimed(1, 5, 3, 3, 3)} {
		if l.May(c) || l.Nearest(c.Dest, c.Key.Epoch, c.Key.Seq) != -1 {
			t.Errorf("of another sequence: %v", c)
		}
	}
}

// P28.2: what was shown of a metric stays, by whomever, whether a nearer or a farther one comes behind.
func TestShownStays(t *testing.T) {
	l := Open()
	for _, c := range []proof.Claim{claimed(1, 5, 2, 4, 0), claimed(1, 5, 2, 2, 3), claimed(1, 5, 2, 2, 6), claimed(1, 5, 2, 3, 1), claimed(1, 5, 2, 2, 3)} {
		is(t, "Show", l.Show(c), api.OK)
		if !l.May(c) {
			t.Errorf("%v was shown", c)
		}
	}
	if near := l.Nearest(1, 5, 2); near != 2 {
		t.Errorf("Nearest: %d", near)
	}
	for sender := range 8 {
		if want := sender == 3 || sender == 6; l.May(claimed(1, 5, 2, 2, sender)) != want {
			t.Errorf("of %d: %v", sender, !want)
		}
		if l.May(claimed(1, 5, 2, 1, sender)) || !l.May(claimed(1, 5, 2, 3, sender)) || !l.May(claimed(1, 5, 2, math.MaxInt, -sender)) {
			t.Errorf("of %d: nearer, or farther", sender)
		}
	}
	is(t, "Show", l.Show(claimed(1, 5, 2, 0, 1)), api.OK)
	if !l.May(claimed(1, 5, 2, 2, 0)) || !l.May(claimed(1, 5, 2, 1, 0)) || l.May(claimed(1, 5, 2, 0, 0)) || l.Nearest(1, 5, 2) != 0 {
		t.Error("behind the metric 0")
	}
}

// P28.2: of whom the seed is known any claim can be made, whatever its numbers; it shows nothing, and of others it tells nothing.
func TestWhole(t *testing.T) {
	for dest := range api.MaxNodes {
		l := Open()
		is(t, "Whole", l.Whole(dest), api.OK)
		for other := range api.MaxNodes {
			for _, c := range []proof.Claim{claimed(other, 0, 0, 0, 0), claimed(other, math.MaxUint32, math.MaxUint32, math.MaxInt, math.MaxInt), claimed(other, 1, 1, -1, -1)} {
				if l.May(c) != (other == dest) {
					t.Errorf("of %d's seed: %v: %v", dest, c, l.May(c))
				}
				if near := l.Nearest(other, c.Key.Epoch, c.Key.Seq); near != -1 {
					t.Errorf("of %d's seed: Nearest: %d", dest, near)
				}
			}
		}
		for _, other := range noDests {
			if l.May(claimed(other, 0, 0, 0, 0)) {
				t.Errorf("of %d's seed: one of %d", dest, other)
			}
		}
		is(t, "Show", l.Show(claimed(dest, 1, 1, 3, 0)), api.OK)
		is(t, "Whole once more", l.Whole(dest), api.OK)
		if l.Nearest(dest, 1, 1) != 3 || !l.May(claimed(dest, 1, 1, 0, 5)) {
			t.Errorf("behind a claim of %d", dest)
		}
	}
}

// P28.2, Errors: no such destination, a metric below 0; that there is no ledger comes first. Nothing is noted.
func TestLedgerOfWrongThings(t *testing.T) {
	l, none := Open(), (*Ledger)(nil)
	for _, dest := range noDests {
		for _, metric := range []int{0, 1, -1} {
			c := claimed(dest, 1, 2, metric, 0)
			is(t, "Show", l.Show(c), api.ErrArg)
			is(t, "Show of none", none.Show(c), api.ErrNil)
			if l.May(c) || l.May(claimed(dest, 1, 2, 5, 0)) || l.Nearest(dest, 1, 2) != -1 {
				t.Errorf("%v was noted", c)
			}
		}
		is(t, "Whole", l.Whole(dest), api.ErrArg)
		is(t, "Whole of none", none.Whole(dest), api.ErrNil)
		if l.May(claimed(dest, 0, 0, 0, 0)) {
			t.Errorf("the seed of %d was noted", dest)
		}
	}
	for dest := range api.MaxNodes {
		for _, metric := range []int{-1, -2, math.MinInt} {
			c := claimed(dest, 1, 2, metric, 0)
			is(t, "Show", l.Show(c), api.ErrArg)
			is(t, "Show of none", none.Show(c), api.ErrNil)
			if l.May(c) || l.May(claimed(dest, 1, 2, 0, 0)) || l.Nearest(dest, 1, 2) != -1 {
				t.Errorf("%v was noted", c)
			}
		}
		is(t, "Whole of none", none.Whole(dest), api.ErrNil)
	}
	holds(t, l, &book{}, domain())
}

// P28.2: of a nil ledger no claim can be made, and nothing was shown.
func TestNoLedger(t *testing.T) {
	holds(t, nil, &book{}, domain())
	var none *Ledger
	is(t, "Show", none.Show(claimed(1, 1, 1, 1, 1)), api.ErrNil)
	holds(t, nil, &book{}, domain())
}

// R1: a ledger that didn't come out of Open doesn't panic.
func TestZeroLedger(t *testing.T) {
	l := new(Ledger)
	c := claimed(1, 5, 2, 2, 3)
	l.May(c)
	l.Nearest(1, 5, 2)
	Judge(nil, l, c, proof.Cred{})
	l.Whole(0)
	l.Show(c)
	l.May(c)
	l.Nearest(1, 5, 2)
}

// R5: two ledgers know nothing of each other.
func TestLedgersApart(t *testing.T) {
	a, b := Open(), Open()
	a.Show(claimed(1, 5, 2, 2, 3))
	a.Whole(4)
	holds(t, b, &book{}, domain())
	if b.May(claimed(4, 0, 0, 0, 0)) || b.May(claimed(1, 5, 2, 3, 3)) {
		t.Error("one knows what the other one was shown")
	}
}
