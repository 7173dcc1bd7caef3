package truth

import (
	"fingerpost/api"
	"fingerpost/proof"
	"fingerpost/spring"
	"math"
	"slices"
	"testing"
)

// P28.1: what another program made, of the seed 00, 01, 02 and so on of the node 2.
func TestKnownTruth(t *testing.T) {
	var counting api.Digest
	for at := range counting {
		counting[at] = byte(at)
	}
	o, e := New(rules(4, 6, 3), []api.Digest{{1}, {2}, counting, {3}})
	is(t, "New", e, api.OK)
	root, e := o.Root(2, 65536)
	if root != sum(t, "2b4939d3df138b1ecae25ffb1d7c3781") || e != api.OK {
		t.Errorf("Root: %x, %d", root, e)
	}
	element, e := o.Element(2, 65536, 5, 5)
	if element != sum(t, "ca5e25256cb665ecc68b56a7f8037a4b") || e != api.OK {
		t.Errorf("Element: %x, %d", element, e)
	}
	want := proof.Cred{
		Leaf: sum(t, "87616778bcacc0f2583825dd20416bf0"),
		Way:  []api.Sum{sum(t, "6819322ed0007a2c4871feb7c62893ca"), sum(t, "28d44554a0b27181e302215097fac21e")},
		Path: []api.Sum{sum(t, "4536767d599a8b2729c8b56e569f649d"), sum(t, "2bf53d6a3282d948257a54380ea2a82d"), sum(t, "a88733293b75efca6d782be9ddb31d8c")},
	}
	c := claimed(2, 65536, 5, 4, 3)
	if d, e := o.Cred(c); !same(d, want) || e != api.OK || !o.Own(c, want) {
		t.Errorf("Cred: %x, %d, %v", d, e, o.Own(c, want))
	}
}

// P28.1: all is that of the destination's spring, for each destination and epoch by its own seed.
func TestOracle(t *testing.T) {
	for _, r := range allRules() {
		o := made(t, r)
		for dest := range r.Width {
			for _, epoch := range []uint32{0, 1, 258, api.MaxEpoch} {
				s := sprung(t, r, dest, epoch)
				for _, seq := range []int{0, 1<<r.Height - 1} {
					for rung := range r.Steps + 1 {
						want, _ := s.Element(seq, rung)
						if got, e := o.Element(dest, epoch, seq, rung); got != want || e != api.OK {
							t.Errorf("%v: Element(%d, %d, %d, %d): %x, %d", r, dest, epoch, seq, rung, got, e)
						}
					}
				}
				if got, e := o.Root(dest, epoch); got != s.Root() || e != api.OK {
					t.Errorf("%v: Root(%d, %d): %x, %d", r, dest, epoch, got, e)
				}
				each(r, dest, epoch, func(c proof.Claim) {
					want := issued(t, s, c)
					if got, e := o.Cred(c); !same(got, want) || e != api.OK {
						t.Errorf("%v: Cred(%v): %x, %d", r, c, got, e)
					}
					if !o.Own(c, want) {
						t.Errorf("%v: %v isn't its own", r, c)
					}
				})
			}
		}
	}
}

// newNot says that there is no oracle of these.
func newNot(t *testing.T, r spring.Rules, l []api.Digest) {
	t.Helper()
	if o, e := New(r, l); o != nil || e != api.ErrArg {
		t.Errorf("New(%v, %d seeds): %v, %d", r, len(l), o, e)
	}
}

// P28.1, Errors: the rules may not be, or there aren't as many seeds as the width.
func TestNewOfWrongThings(t *testing.T) {
	for _, r := range noRules() {
		for many := range 18 {
			newNot(t, r, seeds(many))
		}
	}
	for _, r := range allRules() {
		for many := range 18 {
			if many != r.Width {
				newNot(t, r, seeds(many))
			}
		}
		newNot(t, r, nil)
		newNot(t, r, []api.Digest{})
	}
}

// asksNot says that an oracle answers nothing but an error, of a destination's epoch.
func asksNot(t *testing.T, o *Oracle, dest int, epoch uint32, want api.Errno) {
	t.Helper()
	if got, e := o.Root(dest, epoch); got != (api.Sum{}) || e != want {
		t.Errorf("Root(%d, %d): %x, %d, not %d", dest, epoch, got, e, want)
	}
	elementNot(t, o, dest, epoch, 0, 0, want)
	elementNot(t, o, dest, epoch, -1, -1, want)
	credNot(t, o, claimed(dest, epoch, 0, 0, 0), want)
	credNot(t, o, claimed(dest, epoch, math.MaxUint32, -1, -1), want)
}

func elementNot(t *testing.T, o *Oracle, dest int, epoch uint32, seq, rung int, want api.Errno) {
	t.Helper()
	if got, e := o.Element(dest, epoch, seq, rung); got != (api.Sum{}) || e != want {
		t.Errorf("Element(%d, %d, %d, %d): %x, %d, not %d", dest, epoch, seq, rung, got, e, want)
	}
}

func credNot(t *testing.T, o *Oracle, c proof.Claim, want api.Errno) {
	t.Helper()
	if got, e := o.Cred(c); got.Leaf != (api.Sum{}) || len(got.Way) != 0 || len(got.Path) != 0 || e != want {
		t.Errorf("Cred(%v): %x, %d, not %d", c, got, e, want)
	}
	if o.Own(c, proof.Cred{}) {
		t.Errorf("nothing at all is the credential of %v", c)
	}
}

// P28.1, Errors: no such destination, an epoch too many, what the spring refuses; that there is no oracle comes first.
func TestOracleOfWrongThings(t *testing.T) {
	for _, r := range allRules() {
		o := made(t, r)
		for _, dest := range append([]int{r.Width, r.Width + 1}, noDests...) {
			asksNot(t, o, dest, 1, api.ErrArg)
			asksNot(t, o, dest, math.MaxUint32, api.ErrArg)
			asksNot(t, nil, dest, 1, api.ErrNil)
		}
		for _, epoch := range []uint32{1<<16 + 1, 1 << 17, 1 << 31, math.MaxUint32} {
			asksNot(t, o, r.Width-1, epoch, api.ErrArg)
			asksNot(t, nil, r.Width-1, epoch, api.ErrNil)
		}
		for _, seq := range []int{-1, 1 << r.Height, 64, 1 << 32, math.MaxInt, math.MinInt} {
			elementNot(t, o, 0, 1, seq, 0, api.ErrArg)
		}
		for _, rung := range []int{-1, r.Steps + 1, 17, 1 << 32, math.MaxInt, math.MinInt} {
			elementNot(t, o, 0, 1, 0, rung, api.ErrArg)
		}
		good := issued(t, sprung(t, r, 0, 1), claimed(0, 1, 0, 0, 0))
		for _, c := range wrongClaims(r) {
			credNot(t, o, c, api.ErrArg)
			credNot(t, nil, c, api.ErrNil)
			if o.Own(c, good) {
				t.Errorf("%v: another one's credential is that of %v", r, c)
			}
		}
	}
}

// R1: an oracle that didn't come out of New answers, and doesn't panic.
func TestNoOracle(t *testing.T) {
	for dest := range 3 {
		asksNot(t, nil, dest, 0, api.ErrNil)
		asksNot(t, new(Oracle), dest, 0, api.ErrArg)
	}
	r := rules(2, 3, 1)
	c := claimed(1, 5, 1, 2, 0)
	d := issued(t, sprung(t, r, 1, 5), c)
	var none *Oracle
	if none.Own(c, d) || new(Oracle).Own(c, d) {
		t.Error("no oracle tells that a credential is its own")
	}
}

// P28.1: with a bit turned, or another length, a credential isn't the claim's own one.
func TestOwnOfTurned(t *testing.T) {
	for _, r := range allRules() {
		o := made(t, r)
		c := claimed(r.Width-1, 5, 1<<r.Height-1, r.Steps-1, r.Width/2)
		d := issued(t, sprung(t, r, r.Width-1, 5), c)
		for _, x := range turned(d) {
			if o.Own(c, x) {
				t.Errorf("%v: %x is that of %v", r, x, c)
			}
		}
		if !o.Own(c, d) || o.Own(c, proof.Cred{}) {
			t.Errorf("%v: %v: %v", r, c, o.Own(c, d))
		}
	}
}

// P28.1: nor is another claim's one, be it of another destination, epoch, sequence, rung or sender; nor are parts of it.
func TestOwnOfOthers(t *testing.T) {
	r := rules(4, 3, 1)
	o := made(t, r)
	var claims []proof.Claim
	for _, dest := range []int{1, 3} {
		for _, epoch := range []uint32{0, 7} {
			each(r, dest, epoch, func(c proof.Claim) { claims = append(claims, c) })
		}
	}
	for _, c := range claims {
		mine, _ := o.Cred(c)
		for _, other := range claims {
			theirs, _ := o.Cred(other)
			for parts := 1; parts < 8; parts++ {
				x := copied(mine)
				if parts&1 != 0 {
					x.Leaf = theirs.Leaf
				}
				if parts&2 != 0 {
					x.Way = theirs.Way
				}
				if parts&4 != 0 {
					x.Path = theirs.Path
				}
				if o.Own(c, x) != same(mine, x) {
					t.Fatalf("of %v, with parts %d of %v: %v", c, parts, other, o.Own(c, x))
				}
			}
		}
	}
}

// P28.1, R4: nil and empty lists are one.
func TestOwnOfEmptyLists(t *testing.T) {
	r := rules(1, 2, 0)
	o := made(t, r)
	c := claimed(0, 1, 0, 1, 0)
	d, _ := o.Cred(c)
	for _, way := range [][]api.Sum{nil, {}} {
		for _, path := range [][]api.Sum{nil, {}} {
			if !o.Own(c, proof.Cred{Leaf: d.Leaf, Way: way, Path: path}) {
				t.Errorf("%v, %v: not its own", way, path)
			}
		}
	}
}

// R3: seeds that are handed in are neither kept nor changed, credentials neither; what is handed out is new.
func TestNothingIsShared(t *testing.T) {
	r := rules(4, 3, 2)
	room := seeds(6)
	o, e := New(r, room[:4])
	is(t, "New", e, api.OK)
	c := claimed(3, 5, 2, 1, 0)
	want, _ := made(t, r).Cred(c)
	clear(room[:4])
	if got, _ := o.Cred(c); !same(got, want) {
		t.Error("the seeds are used that were handed in")
	}
	if !slices.Equal(room[4:], seeds(6)[4:]) {
		t.Error("the room behind the seeds was changed")
	}
	for range 2 {
		got, _ := o.Cred(c)
		if !same(got, want) {
			t.Fatal("what was handed out is used")
		}
		clear(got.Way[:cap(got.Way)])
		clear(got.Path[:cap(got.Path)])
	}
	x, y := copied(want), copied(want)
	o.Own(c, x)
	Judge(o, Open(), c, x)
	if !same(x, y) {
		t.Error("a credential was changed")
	}
}

// P28.1: a destination's epoch has one spring, which makes what it is asked for once; what is wrong makes none.
func TestSpringsAreKept(t *testing.T) {
	r := rules(4, 3, 2)
	o := made(t, r)
	for _, dest := range noDests {
		asksNot(t, o, dest, 1, api.ErrArg)
	}
	asksNot(t, o, 0, api.MaxEpoch+1, api.ErrArg)
	if len(o.springs) != 0 {
		t.Errorf("wrong things made %d springs", len(o.springs))
	}
	for at := range 3 {
		o.Element(1, 5, at, 0)
		o.Element(1, 5, at, 3)
		if got := o.springs[source{1, 5}].Made(); got != at+1 {
			t.Errorf("%d ladders were made, not %d", got, at+1)
		}
	}
	kept := o.springs[source{1, 5}]
	o.Root(1, 5)
	o.Cred(claimed(1, 5, 0, 0, 0))
	o.Root(1, 6)
	o.Root(2, 5)
	if len(o.springs) != 3 || o.springs[source{1, 5}] != kept || kept.Made() != 4 {
		t.Errorf("%d springs, %d ladders", len(o.springs), kept.Made())
	}
}

// R5: the order in which things are asked for is not to be seen in them.
func TestAnyOrder(t *testing.T) {
	r := rules(4, 3, 2)
	rising, falling := made(t, r), made(t, r)
	var there, back []proof.Cred
	for dest := range 4 {
		each(r, dest, 3, func(c proof.Claim) {
			d, _ := rising.Cred(c)
			there = append(there, d)
		})
	}
	for dest := range 4 {
		falling.Root(3-dest, 3)
		falling.Element(3-dest, 3, 3, 1)
	}
	for dest := range 4 {
		each(r, dest, 3, func(c proof.Claim) {
			d, _ := falling.Cred(c)
			back = append(back, d)
		})
	}
	if !slices.EqualFunc(there, back, same) {
		t.Error("they are unlike")
	}
}
