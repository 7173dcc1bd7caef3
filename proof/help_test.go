package proof

import (
	"crypto/sha256"
	"encoding/hex"
	"fingerpost/api"
	"fingerpost/ladder"
	"fingerpost/spring"
	"math"
	"slices"
	"testing"
)

// numbers are a width, steps, a height.
type numbers [3]int

func (n numbers) rules() spring.Rules {
	return spring.Rules{Width: n[0], Steps: n[1], Height: n[2]}
}

func ruled(l []numbers) []spring.Rules {
	var out []spring.Rules
	for _, n := range l {
		out = append(out, n.rules())
	}
	return out
}

// allRules have all widths, the least and the greatest of all numbers among them.
func allRules() []spring.Rules {
	return ruled([]numbers{{1, 1, 0}, {1, 4, 1}, {2, 3, 1}, {4, 6, 3}, {8, 16, 0}, {8, 3, 6}, {2, 16, 2}})
}

// noRules may not be.
func noRules() []spring.Rules {
	return ruled([]numbers{
		{}, {0, 6, 3}, {3, 6, 3}, {16, 6, 3}, {-4, 6, 3}, {math.MaxInt, 6, 3}, {math.MinInt, 6, 3},
		{4, 0, 3}, {4, 17, 3}, {4, -1, 3}, {4, math.MaxInt, 3}, {4, math.MinInt, 3},
		{4, 6, -1}, {4, 6, 7}, {4, 6, 32}, {4, 6, 64}, {4, 6, math.MaxInt}, {4, 6, math.MinInt},
	})
}

func counting() api.Digest {
	var d api.Digest
	for at := range d {
		d[at] = byte(at)
	}
	return d
}

// some is a short sum of no meaning, another one for each number.
func some(number int) api.Sum {
	d := sha256.Sum256([]byte{'?', byte(number), byte(number >> 8)})
	return api.Sum(d[:16])
}

func sprung(t *testing.T, r spring.Rules, dest int, epoch uint32) *spring.Spring {
	t.Helper()
	s, e := spring.New(r, counting(), dest, epoch)
	if s == nil || e != api.OK {
		t.Fatalf("spring.New(%v, .., %d, %d): %v, %d", r, dest, epoch, s, e)
	}
	return s
}

// claimed is a claim of a destination's sequence.
func claimed(dest int, epoch, seq uint32, metric, sender int) Claim {
	return Claim{Dest: dest, Key: api.Key{Epoch: epoch, Seq: seq, Metric: metric}, Sender: sender}
}

// each goes over right claims of one destination and epoch: all of a sequence's rungs and senders, of the first and the last sequence, and of one between.
func each(r spring.Rules, dest int, epoch uint32, f func(c Claim)) {
	last := uint32(1)<<r.Height - 1
	for _, seq := range slices.Compact([]uint32{0, last / 3, last}) {
		for metric := range r.Steps {
			for sender := range r.Width {
				f(claimed(dest, epoch, seq, metric, sender))
			}
		}
	}
}

func issued(t *testing.T, s *spring.Spring, c Claim) Cred {
	t.Helper()
	d, e := Issue(s, c)
	if e != api.OK {
		t.Fatalf("Issue of %v: %d", c, e)
	}
	return d
}

// learned is what is known behind a claim of a spring.
func learned(t *testing.T, s *spring.Spring, c Claim) Known {
	t.Helper()
	d := issued(t, s, c)
	next, e := Check(s.Rules(), s.Root(), c, d)
	if e != api.OK {
		t.Fatalf("Check of %v: %d", c, e)
	}
	return Learn(c, next, d)
}

// own is the credential that the chapter's words tell, of the layers below.
func own(s *spring.Spring, c Claim) Cred {
	seq := int(c.Key.Seq)
	element, _ := s.Element(seq, c.Key.Metric)
	at := ladder.Place{Dest: c.Dest, Epoch: c.Key.Epoch, Seq: c.Key.Seq}
	leaf, way, _ := ladder.Show(at, c.Key.Metric, element, s.Rules().Width, c.Sender)
	path, _ := s.Path(seq)
	return Cred{leaf, way, path}
}

func (d Cred) is(other Cred) bool {
	return d.Leaf == other.Leaf && slices.Equal(d.Way, other.Way) && slices.Equal(d.Path, other.Path)
}

func (k Known) is(other Known) bool {
	return k.Dest == other.Dest && k.Key == other.Key && k.Element == other.Element && slices.Equal(k.Path, other.Path)
}

// copied shares no memory with a credential.
func copied(d Cred) Cred {
	return Cred{d.Leaf, slices.Clone(d.Way), slices.Clone(d.Path)}
}

// wrongClaims are claims that aren't right, each by one number.
func wrongClaims(r spring.Rules) []Claim {
	var l []Claim
	far := []int{-1, -2, 16, 256, 1 << 32, math.MaxInt, math.MinInt}
	for _, n := range append([]int{r.Width, r.Width + 1}, far...) {
		l = append(l, claimed(n, 1, 0, 0, 0), claimed(0, 1, 0, 0, n))
	}
	for _, n := range append([]int{r.Steps, r.Steps + 1}, far...) {
		l = append(l, claimed(0, 1, 0, n, 0))
	}
	for _, n := range []uint32{1 << 16, 1 << 17, 1 << 31, math.MaxUint32 - 1} {
		l = append(l, claimed(0, n+1, 0, 0, 0))
	}
	for _, n := range []uint32{1 << r.Height, 1<<r.Height + 1, 1 << 6, 1 << 8, 1 << 31, math.MaxUint32} {
		l = append(l, claimed(0, 1, n, 0, 0))
	}
	return l
}

func sum(t *testing.T, digits string) api.Sum {
	t.Helper()
	b, err := hex.DecodeString(digits)
	if err != nil || len(b) != 16 {
		t.Fatalf("%s is no short sum", digits)
	}
	return api.Sum(b)
}

func sums(t *testing.T, l ...string) []api.Sum {
	t.Helper()
	var out []api.Sum
	for _, digits := range l {
		out = append(out, sum(t, digits))
	}
	return out
}
