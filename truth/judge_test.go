package truth

import (
	"fingerpost/api"
	"fingerpost/proof"
	"testing"
)

func judged(t *testing.T, o *Oracle, l *Ledger, c proof.Claim, d proof.Cred, want int) {
	t.Helper()
	if got := Judge(o, l, c, d); got != want {
		t.Errorf("Judge of %v: %d, not %d", c, got, want)
	}
}

// P28.2: what a claim is has these numbers.
func TestVerdicts(t *testing.T) {
	if Fair != 0 || Guessed != 1 || Other != 2 {
		t.Errorf("%d, %d, %d", Fair, Guessed, Other)
	}
}

// P28.2: whose credential isn't its own is Other, whatever can be made; else it is Fair, if it can be made, or Guessed.
func TestJudge(t *testing.T) {
	r := rules(4, 6, 3)
	o := made(t, r)
	c := claimed(2, 5, 7, 2, 3)
	own := issued(t, sprung(t, r, 2, 5), c)
	farther, nearer, whole, very := Open(), Open(), Open(), Open()
	farther.Show(claimed(2, 5, 7, 3, 3))
	farther.Show(claimed(2, 5, 7, 2, 1))
	nearer.Show(claimed(2, 5, 7, 1, 0))
	whole.Whole(2)
	very.Show(c)
	for _, l := range []*Ledger{nil, Open(), farther} {
		judged(t, o, l, c, own, Guessed)
		judged(t, nil, l, c, own, Other)
	}
	for _, l := range []*Ledger{nearer, whole, very} {
		judged(t, o, l, c, own, Fair)
		judged(t, nil, l, c, own, Other)
		judged(t, new(Oracle), l, c, own, Other)
	}
	for _, l := range []*Ledger{nil, Open(), farther, nearer, whole, very} {
		for _, d := range turned(own) {
			judged(t, o, l, c, d, Other)
		}
		judged(t, o, l, c, proof.Cred{}, Other)
	}
}

// P28.2: a claim that isn't right has no credential of its own, also if it can be made.
func TestJudgeOfWrongClaims(t *testing.T) {
	for _, r := range allRules() {
		o, l := made(t, r), Open()
		for dest := range api.MaxNodes {
			l.Whole(dest)
		}
		good := issued(t, sprung(t, r, 0, 1), claimed(0, 1, 0, 0, 0))
		judged(t, o, l, claimed(0, 1, 0, 0, 0), good, Fair)
		for _, c := range wrongClaims(r) {
			judged(t, o, l, c, good, Other)
			judged(t, o, l, c, proof.Cred{}, Other)
			judged(t, nil, nil, c, good, Other)
		}
	}
}

// P28.3: what springs issue, and whoever was shown it passes on, rung by rung, is Fair as soon as it was shown; what nobody showed so near is Guessed.
func TestPassedOnIsFair(t *testing.T) {
	for _, r := range allRules() {
		o := made(t, r)
		dest, seq := r.Width-1, uint32(1<<r.Height-1)
		s := sprung(t, r, dest, 5)
		for first := range r.Steps {
			l := Open()
			c := claimed(dest, 5, seq, first, dest)
			d := issued(t, s, c)
			judged(t, o, l, c, d, Guessed)
			is(t, "Show", l.Show(c), api.OK)
			judged(t, o, l, c, d, Fair)
			for nearer := range first {
				x := claimed(dest, 5, seq, nearer, 0)
				judged(t, o, l, x, issued(t, s, x), Guessed)
			}
			for c.Key.Metric < r.Steps-1 {
				next, e := proof.Check(r, s.Root(), c, d)
				is(t, "Check", e, api.OK)
				known := proof.Learn(c, next, d)
				for id := range r.Width {
					// Any node passes it on, and the last one's is passed on further.
					c, d, e = proof.Pass(r, known, id)
					is(t, "Pass", e, api.OK)
					judged(t, o, l, c, d, Fair)
				}
			}
		}
	}
}

// P28.3: of whom the seed is known all that its springs issue is Fair.
func TestIssuedOfAKnownSeed(t *testing.T) {
	r := rules(4, 3, 2)
	o, l := made(t, r), Open()
	is(t, "Whole", l.Whole(2), api.OK)
	for dest := range 4 {
		for _, epoch := range []uint32{0, 9} {
			s := sprung(t, r, dest, epoch)
			each(r, dest, epoch, func(c proof.Claim) {
				if dest == 2 {
					judged(t, o, l, c, issued(t, s, c), Fair)
				} else {
					judged(t, o, l, c, issued(t, s, c), Guessed)
				}
			})
		}
	}
}

// P28.3: what is shown under a root isn't Other, and what is Other isn't shown: bits turned, parts of other claims, farther elements, other seeds.
func TestShownUnderARoot(t *testing.T) {
	r := rules(4, 4, 2)
	o, l := made(t, r), Open()
	s := sprung(t, r, 1, 5)
	root, e := o.Root(1, 5)
	is(t, "Root", e, api.OK)
	shown := 0
	holds := func(c proof.Claim, d proof.Cred) {
		_, e := proof.Check(r, root, c, d)
		if e == api.OK {
			shown++
		}
		if other := Judge(o, l, c, d) == Other; other != (e != api.OK) {
			t.Fatalf("%v, %x: %d, but Other: %v", c, d, e, other)
		}
	}
	var claims []proof.Claim
	each(r, 1, 5, func(c proof.Claim) { claims = append(claims, c) })
	stranger := sprung(t, r, 2, 5)
	for _, c := range claims {
		mine := issued(t, s, c)
		for _, d := range turned(mine) {
			holds(c, d)
		}
		for _, other := range claims {
			theirs := issued(t, s, other)
			holds(c, theirs)
			holds(c, proof.Cred{Leaf: mine.Leaf, Way: theirs.Way, Path: mine.Path})
			holds(c, proof.Cred{Leaf: theirs.Leaf, Way: theirs.Way, Path: mine.Path})
		}
		holds(c, issued(t, stranger, c))
		// A farther rung's element, taken for a nearer one.
		next, _ := proof.Check(r, root, c, mine)
		k := proof.Learn(c, next, mine)
		for nearer := range k.Key.Metric {
			k.Key.Metric = nearer
			x, d, _ := proof.Pass(r, k, 3)
			holds(x, d)
		}
	}
	if shown < len(claims) {
		t.Errorf("%d were shown", shown)
	}
}
