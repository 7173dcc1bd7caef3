package truth

import (
	"encoding/hex"
	"fingerpost/api"
	"fingerpost/proof"
	"fingerpost/spring"
	"math"
	"slices"
	"testing"
)

// noDests are numbers of no destination at all.
var noDests = []int{-1, -2, 8, 9, 256, 1 << 32, math.MaxInt, math.MinInt}

func rules(width, steps, height int) spring.Rules {
	return spring.Rules{Width: width, Steps: steps, Height: height}
}

// allRules have all widths, the least and the greatest of all numbers among them.
func allRules() []spring.Rules {
	return []spring.Rules{rules(1, 1, 0), rules(1, 4, 1), rules(2, 3, 1), rules(4, 6, 3), rules(8, 16, 0), rules(8, 3, 6), rules(2, 16, 2)}
}

// noRules may not be.
func noRules() []spring.Rules {
	return []spring.Rules{
		{}, rules(0, 6, 3), rules(3, 6, 3), rules(16, 6, 3), rules(-4, 6, 3), rules(math.MaxInt, 6, 3), rules(math.MinInt, 6, 3),
		rules(4, 0, 3), rules(4, 17, 3), rules(4, -1, 3), rules(4, math.MaxInt, 3), rules(4, math.MinInt, 3),
		rules(4, 6, -1), rules(4, 6, 7), rules(4, 6, 64), rules(4, 6, math.MaxInt), rules(4, 6, math.MinInt),
	}
}

// seed is a destination's, unlike all others'.
func seed(dest int) api.Digest {
	var d api.Digest
	for at := range d {
		d[at] = byte(at ^ dest<<3)
	}
	return d
}

func seeds(many int) []api.Digest {
	var l []api.Digest
	for dest := range many {
		l = append(l, seed(dest))
	}
	return l
}

func made(t *testing.T, r spring.Rules) *Oracle {
	t.Helper()
	o, e := New(r, seeds(r.Width))
	if o == nil || e != api.OK {
		t.Fatalf("New(%v): %v, %d", r, o, e)
	}
	return o
}

// sprung is a destination's spring, as layer 8 makes it.
func sprung(t *testing.T, r spring.Rules, dest int, epoch uint32) *spring.Spring {
	t.Helper()
	s, e := spring.New(r, seed(dest), dest, epoch)
	if s == nil || e != api.OK {
		t.Fatalf("spring.New(%v, .., %d, %d): %v, %d", r, dest, epoch, s, e)
	}
	return s
}

// claimed is a claim of a destination's sequence.
func claimed(dest int, epoch, seq uint32, metric, sender int) proof.Claim {
	return proof.Claim{Dest: dest, Key: api.Key{Epoch: epoch, Seq: seq, Metric: metric}, Sender: sender}
}

// each goes over right claims of one destination and epoch: all of a sequence's rungs and senders, of the first and the last sequence.
func each(r spring.Rules, dest int, epoch uint32, f func(c proof.Claim)) {
	for _, seq := range slices.Compact([]uint32{0, 1<<r.Height - 1}) {
		for metric := range r.Steps {
			for sender := range r.Width {
				f(claimed(dest, epoch, seq, metric, sender))
			}
		}
	}
}

// wrongClaims are claims that aren't right, each by one number.
func wrongClaims(r spring.Rules) []proof.Claim {
	var l []proof.Claim
	for _, n := range append([]int{r.Width}, noDests...) {
		l = append(l, claimed(n, 1, 0, 0, 0), claimed(0, 1, 0, 0, n))
	}
	for _, n := range []int{r.Steps, r.Steps + 1, -1, 16, 256, 1 << 32, math.MaxInt, math.MinInt} {
		l = append(l, claimed(0, 1, 0, n, 0))
	}
	for _, n := range []uint32{1<<16 + 1, 1 << 17, 1 << 31, math.MaxUint32} {
		l = append(l, claimed(0, n, 0, 0, 0))
	}
	for _, n := range []uint32{1 << r.Height, 1<<r.Height + 1, 1 << 6, 1 << 31, math.MaxUint32} {
		l = append(l, claimed(0, 1, n, 0, 0))
	}
	return l
}

// issued is a claim's credential, as layer 9 issues it.
func issued(t *testing.T, s *spring.Spring, c proof.Claim) proof.Cred {
	t.Helper()
	d, e := proof.Issue(s, c)
	if e != api.OK {
		t.Fatalf("Issue of %v: %d", c, e)
	}
	return d
}

// same says whether two credentials are one; nil and empty lists are.
func same(a, b proof.Cred) bool {
	return a.Leaf == b.Leaf && slices.Equal(a.Way, b.Way) && slices.Equal(a.Path, b.Path)
}

// copied shares no memory with a credential.
func copied(d proof.Cred) proof.Cred {
	return proof.Cred{Leaf: d.Leaf, Way: slices.Clone(d.Way), Path: slices.Clone(d.Path)}
}

// turned are credentials that are unlike one, each by one thing: a bit, or how long a list is.
func turned(d proof.Cred) []proof.Cred {
	var l []proof.Cred
	for bit := range 128 {
		at, by := bit/8, byte(1)<<(bit%8)
		x := copied(d)
		x.Leaf[at] ^= by
		l = append(l, x)
		for level := range d.Way {
			x := copied(d)
			x.Way[level][at] ^= by
			l = append(l, x)
		}
		for level := range d.Path {
			x := copied(d)
			x.Path[level][at] ^= by
			l = append(l, x)
		}
	}
	for _, way := range lengths(d.Way) {
		l = append(l, proof.Cred{Leaf: d.Leaf, Way: way, Path: d.Path})
	}
	for _, path := range lengths(d.Path) {
		l = append(l, proof.Cred{Leaf: d.Leaf, Way: d.Way, Path: path})
	}
	return l
}

// lengths are lists of other lengths than one, that begin as it does.
func lengths(l []api.Sum) [][]api.Sum {
	var all [][]api.Sum
	long := append(slices.Clone(l), make([]api.Sum, 9)...)
	for size := range long {
		if size != len(l) {
			all = append(all, long[:size])
		}
	}
	return all
}

func sum(t *testing.T, digits string) api.Sum {
	t.Helper()
	b, err := hex.DecodeString(digits)
	if err != nil || len(b) != 16 {
		t.Fatalf("%s is no short sum", digits)
	}
	return api.Sum(b)
}

func is(t *testing.T, what string, e, want api.Errno) {
	t.Helper()
	if e != want {
		t.Fatalf("%s: %d, not %d", what, e, want)
	}
}
