package proof

import (
	"fingerpost/api"
	"fingerpost/ladder"
	"fingerpost/spring"
	"math"
	"slices"
	"testing"
)

// P9.4, P9.6: of each nearer claim of a sequence whose rung is known the next element; what is taken is shown under the root, too.
func TestQuick(t *testing.T) {
	for _, r := range allRules() {
		s := sprung(t, r, r.Width/2, 258)
		each(r, r.Width/2, 258, func(far Claim) {
			if far.Sender != (int(far.Key.Seq)+far.Key.Metric)%r.Width {
				return // what is learned hangs on no sender
			}
			k := learned(t, s, far)
			for metric := range r.Steps {
				for sender := range r.Width {
					c := claimed(far.Dest, 258, far.Key.Seq, metric, sender)
					d := issued(t, s, c)
					got, ok := Quick(r, k, c, d)
					want, e := Check(r, s.Root(), c, d)
					if e != api.OK {
						t.Fatalf("Check of %v: %d", c, e)
					}
					if metric >= k.Key.Metric {
						want = api.Sum{}
					}
					if got != want || ok != (metric < k.Key.Metric) {
						t.Errorf("Quick of %v, %v known: %x, %v", c, k.Key, got, ok)
					}
				}
			}
		})
	}
}

// doubted says that Quick takes nothing.
func doubted(t *testing.T, what string, r spring.Rules, k Known, c Claim, d Cred) {
	t.Helper()
	if got, ok := Quick(r, k, c, d); got != (api.Sum{}) || ok {
		t.Errorf("Quick of %v, %s: %x, %v", c, what, got, ok)
	}
}

// P9.4: what is known is of the claim's destination, epoch and sequence, and of a farther rung that there is.
func TestQuickOfOtherKnowns(t *testing.T) {
	r := numbers{4, 6, 3}.rules()
	s := sprung(t, r, 1, 5)
	c := claimed(1, 5, 6, 2, 3)
	d := issued(t, s, c)
	for metric := range r.Steps {
		good := learned(t, s, claimed(1, 5, 6, metric, 0))
		for _, other := range []Known{
			{2, good.Key, good.Element, good.Path}, {0, good.Key, good.Element, good.Path}, {-1, good.Key, good.Element, good.Path}, {257, good.Key, good.Element, good.Path},
			{1, api.Key{Epoch: 6, Seq: 6, Metric: metric + 1}, good.Element, good.Path}, {1, api.Key{Epoch: 5 + 1<<16, Seq: 6, Metric: metric + 1}, good.Element, good.Path},
			{1, api.Key{Epoch: 5, Seq: 7, Metric: metric + 1}, good.Element, good.Path}, {1, api.Key{Epoch: 5, Seq: 6 + 1<<8, Metric: metric + 1}, good.Element, good.Path},
			{1, good.Key, some(1), good.Path}, {1, good.Key, api.Sum{}, good.Path}, {},
		} {
			doubted(t, "of what else is known", r, other, c, d)
		}
		for _, m := range []int{0, 1, 2, 3, 4, 5, 6, 7, 8, 16, 17, 258, -1, math.MaxInt, math.MinInt} {
			if other := good; m != metric+1 {
				other.Key.Metric = m
				doubted(t, "of another rung's element", r, other, c, d)
			}
		}
	}
}

// P9.4: a metric above Steps isn't gone by, though the element is just what the claim climbs to there.
func TestQuickBeyondSteps(t *testing.T) {
	r := numbers{4, 3, 2}.rules()
	s := sprung(t, r, 1, 5)
	c := claimed(1, 5, 2, 1, 3)
	d := issued(t, s, c)
	at := ladder.Place{Dest: 1, Epoch: 5, Seq: 2}
	next, _ := s.Element(2, 2)
	for metric := 2; metric <= 16; metric++ {
		e, _ := ladder.Climb(at, next, 2, metric, 4)
		k := Known{1, api.Key{Epoch: 5, Seq: 2, Metric: metric}, e, d.Path}
		if metric > 3 {
			doubted(t, "beyond the last rung", r, k, c, d)
		} else if got, ok := Quick(r, k, c, d); got != next || !ok {
			t.Errorf("Quick by the rung %d: %x, %v", metric, got, ok)
		}
	}
}

// P9.4: the credential's path is what is known, of that length, whatever that is: it isn't gone up.
func TestQuickByPaths(t *testing.T) {
	r := numbers{4, 3, 2}.rules()
	s := sprung(t, r, 1, 5)
	c := claimed(1, 5, 3, 0, 2)
	good := issued(t, s, c)
	next, _ := s.Element(3, 1)
	paths := [][]api.Sum{nil, good.Path, good.Path[:1], append(slices.Clone(good.Path), api.Sum{}), make([]api.Sum, 2), {good.Path[1], good.Path[0]}, make([]api.Sum, 100)}
	for at, known := range paths {
		k := learned(t, s, c)
		k.Path = known
		for other, path := range paths {
			d := Cred{good.Leaf, good.Way, slices.Clone(path)}
			if at != other {
				doubted(t, "by another path", r, k, c, d)
			} else if got, ok := Quick(r, k, c, d); got != next || !ok {
				t.Errorf("Quick by the path %d: %x, %v", at, got, ok)
			}
		}
	}
	// nil and empty paths are one (R4).
	k := learned(t, s, c)
	k.Path = nil
	if got, ok := Quick(r, k, c, Cred{good.Leaf, good.Way, []api.Sum{}}); got != next || !ok {
		t.Errorf("Quick by an empty path: %x, %v", got, ok)
	}
}

// P9.4: ways of other lengths are doubted.
func TestQuickByWrongWays(t *testing.T) {
	for _, r := range allRules() {
		s := sprung(t, r, 0, 1)
		c := claimed(0, 1, 0, 0, 0)
		d := issued(t, s, c)
		k := learned(t, s, c)
		for size := range 20 {
			if size != len(d.Way) {
				long := append(slices.Clone(d.Way), make([]api.Sum, size)...)
				doubted(t, "by another way", r, k, c, Cred{d.Leaf, long[:size], d.Path})
			}
		}
	}
}

// P9.4: a claim that isn't right is doubted, also if what is known is of its very numbers.
func TestQuickOfWrongClaims(t *testing.T) {
	for _, r := range allRules() {
		d := issued(t, sprung(t, r, 0, 1), claimed(0, 1, 0, 0, 0))
		for _, c := range wrongClaims(r) {
			for _, metric := range []int{c.Key.Metric, r.Steps, 0, 1, math.MaxInt} {
				k := Known{c.Dest, c.Key, some(1), d.Path}
				k.Key.Metric = metric
				doubted(t, "that isn't right", r, k, c, d)
			}
		}
	}
	for _, r := range noRules() {
		doubted(t, "of no rules", r, Known{Key: api.Key{Metric: 1}}, Claim{}, Cred{})
		doubted(t, "of no rules", r, Known{}, Claim{}, Cred{})
	}
}

// P9.4: nor is it taken if it climbs to what is known: a place may be of any numbers, a right claim may not.
func TestQuickOfWrongPlaces(t *testing.T) {
	r := numbers{4, 3, 2}.rules()
	for _, x := range []struct {
		c  Claim
		ok bool
	}{
		{claimed(3, 1<<16, 3, 1, 2), true},
		{claimed(4, 1<<16, 3, 1, 2), false}, {claimed(-1, 1<<16, 3, 1, 2), false}, {claimed(256, 1<<16, 3, 1, 2), false},
		{claimed(3, 1<<16+1, 3, 1, 2), false}, {claimed(3, math.MaxUint32, 3, 1, 2), false},
		{claimed(3, 1<<16, 4, 1, 2), false}, {claimed(3, 1<<16, math.MaxUint32, 1, 2), false},
	} {
		at := ladder.Place{Dest: x.c.Dest, Epoch: x.c.Key.Epoch, Seq: x.c.Key.Seq}
		leaf, way, _ := ladder.Show(at, 1, some(1), 4, 2)
		next, _ := ladder.Up(at, 1, some(1), 4)
		k := Learn(x.c, next, Cred{})
		if got, ok := Quick(r, k, x.c, Cred{Leaf: leaf, Way: way}); ok != x.ok || ok && got != next || !ok && got != (api.Sum{}) {
			t.Errorf("Quick of %v: %x, %v", x.c, got, ok)
		}
	}
}

// P9.4: a way that rises to nothing isn't taken for one that rises to zeros.
func TestQuickOfZeros(t *testing.T) {
	r := numbers{4, 3, 2}.rules()
	for metric := 1; metric <= 3; metric++ {
		k := Known{1, api.Key{Epoch: 5, Seq: 3, Metric: metric}, api.Sum{}, nil}
		for size := range 5 {
			doubted(t, "of zeros", r, k, claimed(1, 5, 3, 0, 2), Cred{Way: make([]api.Sum, size)})
		}
	}
}

// P9.4: a claim below the rung 0 isn't right, though what is known is of a farther rung.
func TestQuickBelowTheLadder(t *testing.T) {
	r := numbers{1, 3, 0}.rules()
	s := sprung(t, r, 0, 1)
	for _, metric := range []int{-1, -2, math.MinInt} {
		first, _ := s.Element(0, 0)
		c := claimed(0, 1, 0, metric, 0)
		doubted(t, "below the ladder", r, Known{0, api.Key{Epoch: 1}, first, nil}, c, Cred{Leaf: first})
	}
}

// P9.6: with any bit turned, of what is known or of what is shown, Quick takes nothing; nor under another name.
func TestQuickOfTurnedBits(t *testing.T) {
	r := numbers{4, 4, 2}.rules()
	s := sprung(t, r, 1, 5)
	c := claimed(1, 5, 3, 1, 2)
	d := issued(t, s, c)
	for metric := 1; metric < 4; metric++ {
		k := learned(t, s, claimed(1, 5, 3, metric, 0))
		for bit := range 128 {
			at, by := bit/8, byte(1)<<(bit%8)
			known := k
			known.Element[at] ^= by
			doubted(t, "of a turned element", r, known, c, d)
			turned := copied(d)
			turned.Leaf[at] ^= by
			doubted(t, "of a turned leaf", r, k, c, turned)
			for level := range d.Way {
				turned := copied(d)
				turned.Way[level][at] ^= by
				doubted(t, "by a turned way", r, k, c, turned)
				turned = copied(d)
				turned.Path[level][at] ^= by
				doubted(t, "by a turned path", r, k, c, turned)
			}
		}
		for _, other := range []Claim{claimed(1, 5, 3, 1, 0), claimed(1, 5, 3, 1, 1), claimed(1, 5, 3, 1, 3), claimed(1, 5, 3, 0, 2)} {
			doubted(t, "by another one's", r, k, other, d)
		}
	}
}

// P9.6: of what is known of a shown claim Quick takes no more than Check does, of all that claims' parts can be mixed to.
func TestQuickTakesNoMore(t *testing.T) {
	r := numbers{2, 3, 1}.rules()
	s := sprung(t, r, 1, 5)
	var claims []Claim
	each(r, 1, 5, func(c Claim) { claims = append(claims, c) })
	for _, far := range claims {
		k := learned(t, s, far)
		for _, c := range claims {
			for _, a := range claims {
				for _, b := range claims {
					d := Cred{issued(t, s, a).Leaf, issued(t, s, b).Way, k.Path}
					next, ok := Quick(r, k, c, d)
					shown, e := Check(r, s.Root(), c, d)
					if ok && (e != api.OK || next != shown) {
						t.Errorf("Quick takes %x of %v, %v known: Check %x, %d", d, c, k, shown, e)
					}
					if ok && !d.is(issued(t, s, c)) {
						t.Errorf("Quick takes what %v doesn't issue: %x", c, d)
					}
				}
			}
		}
	}
}
