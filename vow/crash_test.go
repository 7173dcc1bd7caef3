package vow

import (
	"fingerpost/api"
	"fingerpost/renew"
	"fingerpost/slate"
	"maps"
	"math/rand"
	"slices"
	"testing"
)

// like is a model of its own that has the same.
func (m *model) like() *model {
	c := *m
	c.floors, c.anchors = maps.Clone(m.floors), map[int][]renew.Signed{}
	for dest, l := range m.anchors {
		c.anchors[dest] = slices.Clone(l)
	}
	return &c
}

// keeper is a device in use: what was answered OK, and what is told, if the last call, which was cut off, lasted.
type keeper struct {
	s     *slate.Slate
	sure  *model
	maybe *model
	cut   uint64 // how many boots were cut off since the last one that was told
}

// opens holds Open to what it may tell; nil: the power went.
func (k *keeper) opens(t *testing.T) *Vow {
	t.Helper()
	v, e := Open(k.s)
	if e == api.ErrDown {
		k.cut++
		return nil
	}
	errs(t, "Open", e, api.OK)
	boot := v.Boot()
	if boot <= k.sure.boot || boot > k.sure.boot+1+k.cut {
		t.Fatalf("Boot: %d behind %d", boot, k.sure.boot)
	}
	if k.lasted(v) {
		k.sure = k.maybe.like()
	}
	k.sure.boot, k.maybe, k.cut = boot, nil, 0
	k.sure.is(t, "opened", v)
	return v
}

// lasted says whether a vow has what the last call turned.
func (k *keeper) lasted(v *Vow) bool {
	if k.maybe == nil || v.Index() != k.maybe.index {
		return false
	}
	if _, ok := v.Reserved(); ok != (k.maybe.reserve != nil) {
		return false
	}
	if r, ok := v.Reserved(); ok && r != *k.maybe.reserve {
		return false
	}
	for dest := range 8 {
		f, ok := v.Floor(dest)
		want, has := k.maybe.floors[dest]
		if f != want || ok != has || !slices.Equal(v.Anchors(dest), k.maybe.anchors[dest]) {
			return false
		}
	}
	return true
}

// asks asks a vow, and tells whether it lives.
func (k *keeper) asks(t *testing.T, v *Vow, a ask) bool {
	t.Helper()
	m := k.sure.like()
	_, want := m.turn(a)
	switch got := a.of(v); {
	case got == want:
		k.sure = m
		return true
	case want == api.OK && (got == api.ErrDown || got == api.ErrFull):
		k.maybe = m
		m.is(t, "a dead vow", v)
		return false
	default:
		t.Fatalf("%v: %d, not %d", a, got, want)
	}
	return false
}

// tears are the ends of a sector's parts, and what is near them.
func tears() []int {
	return []int{0, 1, 3, 4, 5, 7, 8, 12, 30, 57, 58, 59, 60, 61, 63, 64}
}

// life is what a node asks in one boot.
func life(v *model) []ask {
	n := uint32(v.boot)
	return []ask{
		{call: 0, key: api.Key{Epoch: n, Seq: 1}},
		{call: 1, index: v.index},
		{call: 2, dest: 3, key: api.Key{Epoch: n, Seq: 5, Metric: 9}},
		{call: 2, dest: 3, key: api.Key{Epoch: n, Seq: 5, Metric: 8}},
		{call: 1, index: v.index + 1},
		{call: 2, dest: 4, key: api.Key{Epoch: n, Seq: 5, Metric: 9}},
	}
}

// lives lets a device be in use for some boots; behind so many steps the power goes.
func (k *keeper) lives(t *testing.T, fuse int, anchored bool) {
	t.Helper()
	for round := range 3 {
		if round == 1 {
			k.s.Fuse(fuse)
		}
		v := k.opens(t)
		if v == nil {
			return
		}
		l := life(k.sure)
		if anchored && round < 2 {
			l = append([]ask{{call: 3, x: some(6, uint32(len(k.sure.anchors[6])))}}, l...)
		}
		for _, a := range l {
			if !k.asks(t, v, a) {
				return
			}
		}
	}
}

// P16.3: the power goes at each step, the last of its writes is lost or torn, or one ahead of it; and again, at the opening behind that.
func TestEachStep(t *testing.T) {
	cuts, whole := 0, 0
	for _, x := range []struct {
		sectors, steps int
		anchored       bool
	}{{16, 60, false}, {24, 50, false}, {116, 190, true}} {
		for fuse := range x.steps {
			for lost := range 3 {
				for _, tear := range tears() {
					k := &keeper{s: device(t, x.sectors), sure: none()}
					k.lives(t, fuse, x.anchored)
					if !k.s.Down() {
						whole++
					}
					k.s.Crash(k.s.Loose()-lost, tear)
					k.s.Fuse((fuse*7 + tear) % 9)
					if k.opens(t) == nil {
						cuts++
					}
					k.s.Crash(k.s.Loose()-1, (tear*5+fuse)%65)
					if k.opens(t) == nil {
						t.Fatal("a vow doesn't open any more")
					}
				}
			}
		}
	}
	if cuts < 1000 || whole > 5000 {
		t.Errorf("%d openings were cut off, %d lives weren't", cuts, whole)
	}
}

// P16.3: any lives, openings that are cut off again and again among them.
func TestAnyLives(t *testing.T) {
	cuts, alive, lasted := 0, 0, 0
	for seed := range int64(1500) {
		r := rand.New(rand.NewSource(seed))
		k := &keeper{s: device(t, one(r, 40, 60, 120, 250, 400)), sure: none()}
		for range 12 {
			k.s.Fuse(r.Intn(70) - 5)
			v := k.opens(t)
			if v == nil {
				cuts++
			}
			for v != nil && r.Intn(30) > 0 {
				if a := k.sure.asks(r); len(k.sure.anchors) > 0 && a.call == 3 && r.Intn(5) > 0 {
					continue
				} else if !k.asks(t, v, a) {
					break
				}
				alive++
			}
			was := k.sure
			if r.Intn(2) == 0 {
				k.s.Crash(k.s.Loose()-r.Intn(3), tears()[r.Intn(len(tears()))])
			} else {
				k.s.Crash(r.Intn(26), tears()[r.Intn(len(tears()))])
			}
			if k.maybe != nil && r.Intn(2) == 0 {
				if v := k.opens(t); v != nil && k.sure != was {
					lasted++
				}
			}
		}
	}
	if cuts < 1000 || alive < 10000 || lasted < 200 {
		t.Errorf("%d openings were cut off, %d calls not; %d calls that were cut off lasted", cuts, alive, lasted)
	}
}
