package proof

import (
	"fingerpost/api"
	"fingerpost/grove"
	"fingerpost/ladder"
	"fingerpost/spring"
	"math"
	"slices"
	"testing"
)

// P9.2: a credential that another program made.
func TestKnownCredential(t *testing.T) {
	r := numbers{4, 6, 3}.rules()
	c := claimed(2, 65536, 5, 4, 3)
	want := Cred{
		Leaf: sum(t, "87616778bcacc0f2583825dd20416bf0"),
		Way:  sums(t, "6819322ed0007a2c4871feb7c62893ca", "28d44554a0b27181e302215097fac21e"),
		Path: sums(t, "4536767d599a8b2729c8b56e569f649d", "2bf53d6a3282d948257a54380ea2a82d", "a88733293b75efca6d782be9ddb31d8c"),
	}
	if got, e := Issue(sprung(t, r, 2, 65536), c); !got.is(want) || e != api.OK {
		t.Errorf("Issue: %x, %d", got, e)
	}
	next, e := Check(r, sum(t, "2b4939d3df138b1ecae25ffb1d7c3781"), c, want)
	if next != sum(t, "ca5e25256cb665ecc68b56a7f8037a4b") || e != api.OK {
		t.Errorf("Check: %x, %d", next, e)
	}
}

// P9.2, P9.5: what is issued is the layers' below, and is shown; what it rises to is the next element.
func TestIssueAndCheck(t *testing.T) {
	for _, r := range allRules() {
		for _, dest := range slices.Compact([]int{0, r.Width / 2, r.Width - 1}) {
			for _, epoch := range []uint32{0, 258, api.MaxEpoch} {
				s := sprung(t, r, dest, epoch)
				each(r, dest, epoch, func(c Claim) {
					d, e := Issue(s, c)
					if !d.is(own(s, c)) || e != api.OK {
						t.Errorf("Issue of %v: %x, %d", c, d, e)
					}
					want, _ := s.Element(int(c.Key.Seq), c.Key.Metric+1)
					if got, e := Check(r, s.Root(), c, d); got != want || e != api.OK {
						t.Errorf("Check of %v: %x, %d, not %x", c, got, e, want)
					}
				})
			}
		}
	}
}

// P9.2: of a claim of another destination or epoch the elements are the spring's all the same, the place is the claim's.
func TestIssueOfOthers(t *testing.T) {
	r := numbers{4, 3, 2}.rules()
	s := sprung(t, r, 1, 5)
	for _, c := range []Claim{claimed(2, 5, 3, 1, 0), claimed(1, 6, 3, 1, 0), claimed(3, api.MaxEpoch, 0, 2, 3)} {
		element, _ := s.Element(int(c.Key.Seq), c.Key.Metric)
		leaf := ladder.Leaf(ladder.Place{Dest: c.Dest, Epoch: c.Key.Epoch, Seq: c.Key.Seq}, c.Key.Metric, element, c.Sender)
		got, e := Issue(s, c)
		if !got.is(own(s, c)) || got.Leaf != leaf || e != api.OK {
			t.Errorf("Issue of %v: %x, %d", c, got, e)
		}
		if next, e := Check(r, s.Root(), c, got); next != (api.Sum{}) || e != api.ErrProof {
			t.Errorf("Check of %v: %x, %d", c, next, e)
		}
	}
}

func issuesNot(t *testing.T, s *spring.Spring, c Claim, want api.Errno) {
	t.Helper()
	if got, e := Issue(s, c); !got.is(Cred{}) || e != want {
		t.Errorf("Issue of %v: %x, %d, not %d", c, got, e, want)
	}
}

// P9.2, Errors: that there is no spring comes first.
func TestIssueOfWrongClaims(t *testing.T) {
	for _, r := range allRules() {
		s := sprung(t, r, 0, 1)
		for _, c := range wrongClaims(r) {
			issuesNot(t, s, c, api.ErrArg)
			issuesNot(t, nil, c, api.ErrNil)
			issuesNot(t, &spring.Spring{}, c, api.ErrArg)
		}
		if s.Made() != 0 {
			t.Errorf("wrong claims made %d ladders", s.Made())
		}
	}
	issuesNot(t, nil, Claim{}, api.ErrNil)
	issuesNot(t, &spring.Spring{}, Claim{}, api.ErrArg)
}

// refused says that Check answers nothing but an error.
func refused(t *testing.T, what string, r spring.Rules, root api.Sum, c Claim, d Cred, want api.Errno) {
	t.Helper()
	if got, e := Check(r, root, c, d); got != (api.Sum{}) || e != want {
		t.Errorf("Check of %v, %s: %x, %d, not %d", c, what, got, e, want)
	}
}

// P9.2, Errors: that the claim isn't right comes ahead of what isn't shown.
func TestCheckOfWrongClaims(t *testing.T) {
	for _, r := range allRules() {
		s := sprung(t, r, 0, 1)
		good := issued(t, s, claimed(0, 1, 0, 0, 0))
		for _, c := range wrongClaims(r) {
			refused(t, "that isn't right", r, s.Root(), c, good, api.ErrArg)
			refused(t, "that isn't right", r, s.Root(), c, Cred{}, api.ErrArg)
		}
	}
	for _, r := range noRules() {
		refused(t, "of no rules", r, api.Sum{}, Claim{}, Cred{}, api.ErrArg)
		refused(t, "of no rules", r, some(1), claimed(1, 1, 1, 1, 1), Cred{Way: make([]api.Sum, 2), Path: make([]api.Sum, 3)}, api.ErrArg)
	}
}

// P9.2, Errors: a way has as many sums as the width has levels, a path as many as the height tells.
func TestCheckByWrongLengths(t *testing.T) {
	for _, r := range allRules() {
		s := sprung(t, r, 0, 1)
		c := claimed(0, 1, 0, 0, 0)
		good := issued(t, s, c)
		for size := range 70 {
			zeros := make([]api.Sum, size)
			if size != len(good.Way) {
				long := append(slices.Clone(good.Way), zeros...)
				refused(t, "by another way", r, s.Root(), c, Cred{good.Leaf, long[:size], good.Path}, api.ErrProof)
				refused(t, "by another way", r, s.Root(), c, Cred{good.Leaf, zeros, good.Path}, api.ErrProof)
			}
			if size != len(good.Path) {
				long := append(slices.Clone(good.Path), zeros...)
				refused(t, "by another path", r, s.Root(), c, Cred{good.Leaf, good.Way, long[:size]}, api.ErrProof)
				refused(t, "by another path", r, s.Root(), c, Cred{good.Leaf, good.Way, zeros}, api.ErrProof)
			}
		}
	}
}

// P9.2: a way that rises to nothing isn't taken for one whose ladder ends in zeros.
func TestCheckOfZeros(t *testing.T) {
	r := numbers{4, 3, 2}.rules()
	path := make([]api.Sum, 2)
	root, _ := grove.Fold(1, 5, 3, api.Sum{}, path)
	for size := range 5 {
		refused(t, "of zeros", r, root, claimed(1, 5, 3, 2, 0), Cred{Way: make([]api.Sum, size), Path: path}, api.ErrProof)
	}
}

// P9.2: a path that leads to the root, but isn't as long as the rules tell, shows nothing: nor does a root of another height.
func TestCheckOfAnotherHeight(t *testing.T) {
	low, high := numbers{4, 3, 1}.rules(), numbers{4, 3, 2}.rules()
	c := claimed(2, 5, 1, 1, 3)
	s, other := sprung(t, low, 2, 5), sprung(t, high, 2, 5)
	refused(t, "of a lower tree", high, s.Root(), c, issued(t, s, c), api.ErrProof)
	refused(t, "of a higher tree", low, other.Root(), c, issued(t, other, c), api.ErrProof)
}

// P9.2: nil and empty lists are one (R4).
func TestCheckByEmptyLists(t *testing.T) {
	r := numbers{1, 2, 0}.rules()
	s := sprung(t, r, 0, 1)
	c := claimed(0, 1, 0, 1, 0)
	d := issued(t, s, c)
	end, _ := s.Element(0, 2)
	for _, way := range [][]api.Sum{nil, {}} {
		for _, path := range [][]api.Sum{nil, {}} {
			if got, e := Check(r, s.Root(), c, Cred{d.Leaf, way, path}); got != end || e != api.OK {
				t.Errorf("Check: %x, %d", got, e)
			}
		}
	}
}

// P9.6: under another root nothing is shown, be it zero, or of another epoch, destination or seed.
func TestOtherRoots(t *testing.T) {
	for _, r := range allRules() {
		s := sprung(t, r, 0, 1)
		later := sprung(t, r, 0, 2)
		seeded, _ := spring.New(r, api.Digest{1}, 0, 1)
		roots := []api.Sum{{}, some(1), later.Root(), seeded.Root()}
		if r.Width > 1 {
			roots = append(roots, sprung(t, r, 1, 1).Root())
		}
		for bit := range 128 {
			turned := s.Root()
			turned[bit/8] ^= 1 << (bit % 8)
			roots = append(roots, turned)
		}
		c := claimed(0, 1, 0, 0, 0)
		for _, root := range roots {
			refused(t, "under another root", r, root, c, issued(t, s, c), api.ErrProof)
		}
	}
}

// P9.6: with any bit turned, of the leaf, the way or the path, nothing is shown.
func TestTurnedBits(t *testing.T) {
	r := numbers{4, 4, 2}.rules()
	s := sprung(t, r, 1, 5)
	for _, c := range []Claim{claimed(1, 5, 0, 0, 1), claimed(1, 5, 3, 2, 0), claimed(1, 5, 2, 3, 3)} {
		d := issued(t, s, c)
		for bit := range 128 {
			at, by := bit/8, byte(1)<<(bit%8)
			turned := copied(d)
			turned.Leaf[at] ^= by
			refused(t, "of a turned leaf", r, s.Root(), c, turned, api.ErrProof)
			for level := range d.Way {
				turned := copied(d)
				turned.Way[level][at] ^= by
				refused(t, "by a turned way", r, s.Root(), c, turned, api.ErrProof)
			}
			for level := range d.Path {
				turned := copied(d)
				turned.Path[level][at] ^= by
				refused(t, "by a turned path", r, s.Root(), c, turned, api.ErrProof)
			}
		}
	}
}

// P9.6: what shows one claim shows no other one, nor with parts of that one's own.
func TestOtherCredentials(t *testing.T) {
	r := numbers{4, 4, 2}.rules()
	s := sprung(t, r, 1, 5)
	var claims []Claim
	each(r, 1, 5, func(c Claim) { claims = append(claims, c) })
	for _, c := range claims {
		mine := issued(t, s, c)
		for _, other := range claims {
			theirs := issued(t, s, other)
			for parts := 1; parts < 8; parts++ {
				d := copied(mine)
				if parts&1 != 0 {
					d.Leaf = theirs.Leaf
				}
				if parts&2 != 0 {
					d.Way = theirs.Way
				}
				if parts&4 != 0 {
					d.Path = theirs.Path
				}
				if !d.is(mine) {
					refused(t, "by another one's", r, s.Root(), c, d, api.ErrProof)
				}
			}
		}
	}
}

// P9.6: nobody comes down: of a rung's element no nearer claim can be made, by anyone, nor by other numbers.
func TestNobodyComesNearer(t *testing.T) {
	r := numbers{4, 5, 1}.rules()
	s := sprung(t, r, 1, 5)
	for sender := range 4 {
		k := learned(t, s, claimed(1, 5, 1, 2, sender))
		for nearer := range k.Key.Metric {
			down := k
			down.Key.Metric = nearer
			for id := range 4 {
				c, d, e := Pass(r, down, id)
				if e != api.OK {
					t.Errorf("Pass of %v: %d", down, e)
				}
				refused(t, "of a farther element", r, s.Root(), c, d, api.ErrProof)
				mine := issued(t, s, claimed(1, 5, 1, 3, id))
				refused(t, "by a farther one's", r, s.Root(), c, mine, api.ErrProof)
			}
		}
	}
}

// P9.2, P9.6, and DOC.md's examples 2 and 3: who was shown the metric 1 shows 2 under its own name, not 1, nor 1 under the name of whoever showed it by a leaf of its own.
func TestWhoWasShownAMetric(t *testing.T) {
	r := numbers{4, 6, 3}.rules()
	s := sprung(t, r, 0, 1)
	shown := claimed(0, 1, 2, 1, 1)
	d := issued(t, s, shown)
	k := learned(t, s, shown)
	own, cred, e := Pass(r, k, 3)
	if own != claimed(0, 1, 2, 2, 3) || e != api.OK {
		t.Errorf("Pass: %v, %d", own, e)
	}
	if _, e := Check(r, s.Root(), own, cred); e != api.OK {
		t.Errorf("Check of the own claim: %d", e)
	}
	refused(t, "under the own name", r, s.Root(), claimed(0, 1, 2, 1, 3), d, api.ErrProof)
	refused(t, "under the own name", r, s.Root(), claimed(0, 1, 2, 1, 3), cred, api.ErrProof)
	refused(t, "with the own leaf", r, s.Root(), shown, cred, api.ErrProof)
}

// R1: whatever it is handed, Check ends, and never panics.
func TestCheckOfAnything(t *testing.T) {
	wild := []int{0, 1, 3, 7, 8, 16, 64, -1, math.MaxInt, math.MinInt}
	for _, r := range append(allRules(), noRules()...) {
		for _, a := range wild {
			for _, b := range wild {
				c := Claim{Dest: a, Key: api.Key{Epoch: uint32(b), Seq: uint32(a), Metric: b}, Sender: a ^ b}
				d := Cred{Way: make([]api.Sum, uint8(a)), Path: make([]api.Sum, uint8(b))}
				if got, e := Check(r, some(1), c, d); got != (api.Sum{}) || Right(r, c) != (e == api.ErrProof) || !Right(r, c) != (e == api.ErrArg) {
					t.Errorf("Check(%v, .., %v, ..): %x, %d", r, c, got, e)
				}
			}
		}
	}
}
