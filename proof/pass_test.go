package proof

import (
	"fingerpost/api"
	"math"
	"slices"
	"testing"
)

// P9.3: of any claim, right or not: its key with the Metric one more, what was handed in as next, the credential's path.
func TestLearn(t *testing.T) {
	for _, x := range []struct{ metric, want int }{{0, 1}, {1, 2}, {14, 15}, {15, 16}, {16, 17}, {-1, 0}, {-2, -1}, {math.MinInt, math.MinInt + 1}, {math.MaxInt - 1, math.MaxInt}} {
		for _, size := range []int{0, 1, 6, 7, 100} {
			for _, dest := range []int{0, 3, 8, -1, math.MaxInt, math.MinInt} {
				c := claimed(dest, 7, 9, x.metric, 2)
				d := Cred{Leaf: some(1), Way: []api.Sum{some(2)}, Path: slices.Repeat([]api.Sum{some(3)}, size)}
				want := Known{Dest: dest, Key: api.Key{Epoch: 7, Seq: 9, Metric: x.want}, Element: some(4), Path: d.Path}
				if got := Learn(c, some(4), d); !got.is(want) {
					t.Errorf("Learn of %v: %v", c, got)
				}
			}
		}
	}
}

// P9.3, R6: nothing is reckoned beyond the ends of an int: what is farthest doesn't become nearest.
func TestLearnOfTheFarthest(t *testing.T) {
	if got := Learn(claimed(0, 0, 0, math.MaxInt, 0), some(4), Cred{}); got.Key.Metric != math.MaxInt {
		t.Errorf("Learn: %v", got)
	}
}

// P9.3: the claim by any node, and the credential that the destination itself would issue for it.
func TestPass(t *testing.T) {
	for _, r := range allRules() {
		s := sprung(t, r, r.Width-1, 258)
		each(r, r.Width-1, 258, func(c Claim) {
			k := learned(t, s, c)
			end, _ := s.Element(int(c.Key.Seq), c.Key.Metric+1)
			if k.Element != end || k.Key.Metric != c.Key.Metric+1 {
				t.Errorf("learned of %v: %v", c, k)
			}
			if k.Key.Metric == r.Steps {
				return // behind the last rung nothing is passed on: see TestPassOfWrongNumbers
			}
			for id := range r.Width {
				want := claimed(c.Dest, 258, c.Key.Seq, c.Key.Metric+1, id)
				got, d, e := Pass(r, k, id)
				if got != want || !d.is(own(s, want)) || e != api.OK {
					t.Errorf("Pass of %v by %d: %v, %x, %d", k, id, got, d, e)
				}
			}
		})
	}
}

// P9.3: the path is what is known, whatever it is; of a shown claim it alone leads to the root.
func TestPassByAnyPath(t *testing.T) {
	r := numbers{4, 3, 2}.rules()
	s := sprung(t, r, 1, 5)
	good := learned(t, s, claimed(1, 5, 3, 0, 1))
	for _, size := range []int{0, 1, 2, 3, 7, 300} {
		k := good
		k.Path = slices.Repeat([]api.Sum{some(3)}, size)
		c, d, e := Pass(r, k, 2)
		want := own(s, c)
		want.Path = k.Path
		if !d.is(want) || e != api.OK {
			t.Errorf("Pass by a path of %d: %x, %d", size, d, e)
		}
		refused(t, "by a path of no meaning", r, s.Root(), c, d, api.ErrProof)
	}
}

func passesNot(t *testing.T, r numbers, k Known, id int) {
	t.Helper()
	if c, d, e := Pass(r.rules(), k, id); c != (Claim{}) || !d.is(Cred{}) || e != api.ErrArg {
		t.Errorf("Pass of %v by %d: %v, %x, %d", k, id, c, d, e)
	}
}

// P9.3, Errors
func TestPassOfWrongNumbers(t *testing.T) {
	for _, r := range allRules() {
		n := numbers{r.Width, r.Steps, r.Height}
		for _, c := range wrongClaims(r) {
			passesNot(t, n, Known{c.Dest, c.Key, some(1), make([]api.Sum, r.Height)}, c.Sender)
		}
		s := sprung(t, r, 0, 1)
		passesNot(t, n, learned(t, s, claimed(0, 1, 0, r.Steps-1, 0)), 0)
	}
	for _, r := range noRules() {
		passesNot(t, numbers{r.Width, r.Steps, r.Height}, Known{}, 0)
		passesNot(t, numbers{r.Width, r.Steps, r.Height}, Known{Dest: 1, Key: api.Key{Metric: 1}}, 1)
	}
}

// P9.5: what is passed on is shown, rung by rung, up to the last one, whoever passes it on to whom; by Quick, too.
func TestRungByRung(t *testing.T) {
	for _, r := range allRules() {
		s := sprung(t, r, 0, 3)
		for seq := range min(1<<r.Height, 3) {
			c := claimed(0, 3, uint32(seq), 0, 0)
			d := issued(t, s, c)
			farthest := learned(t, s, claimed(0, 3, uint32(seq), r.Steps-1, 0))
			for metric := range r.Steps {
				next, e := Check(r, s.Root(), c, d)
				if e != api.OK || c.Key.Metric != metric {
					t.Fatalf("Check of %v: %d", c, e)
				}
				if quick, ok := Quick(r, farthest, c, d); !ok || quick != next {
					t.Errorf("Quick of %v: %x, %v", c, quick, ok)
				}
				k := Learn(c, next, d)
				if metric == r.Steps-1 {
					if !k.is(farthest) {
						t.Errorf("at last %v is known", k)
					}
					break
				}
				c, d, e = Pass(r, k, (3*metric+seq)%r.Width)
				if e != api.OK {
					t.Fatalf("Pass of %v: %d", k, e)
				}
			}
		}
	}
}

// R3: what is handed in is neither changed, nor its spare room, nor kept; what is handed out is new memory, and no two lists of it share any.
func TestListsAreNewMemory(t *testing.T) {
	r := numbers{4, 3, 2}.rules()
	s := sprung(t, r, 1, 5)
	c := claimed(1, 5, 3, 0, 1)
	d := issued(t, s, c)
	room := append(slices.Clone(d.Path), some(1), some(2))
	lent := Cred{d.Leaf, append(slices.Clone(d.Way), some(5))[:2], room[:2]}
	k := Learn(c, some(4), lent)
	_, passed, _ := Pass(r, Known{c.Dest, c.Key, some(4), room[:2]}, 2)
	Check(r, s.Root(), c, lent)
	Quick(r, Known{c.Dest, api.Key{Epoch: 5, Seq: 3, Metric: 1}, some(4), room[:2]}, c, lent)
	if room[2] != some(1) || room[3] != some(2) || !lent.is(d) || lent.Way[:3][2] != some(5) {
		t.Error("what was handed in was turned")
	}
	clear(room)
	if !slices.Equal(k.Path, d.Path) || !slices.Equal(passed.Path, d.Path) {
		t.Error("what was handed in is kept")
	}
	for _, l := range [][]api.Sum{k.Path, passed.Path, passed.Way} {
		clear(l[:cap(l)])
	}
	if !slices.Equal(d.Path, own(s, c).Path) || !issued(t, s, c).is(own(s, c)) {
		t.Error("what was handed out is shared")
	}
	again := issued(t, s, c)
	clear(again.Way[:cap(again.Way)])
	if !slices.Equal(again.Path, d.Path) {
		t.Error("a way and a path share memory")
	}
	clear(again.Path[:cap(again.Path)])
	if !issued(t, s, c).is(d) {
		t.Error("a spring's path was handed out")
	}
}
