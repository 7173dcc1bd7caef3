package settle

import (
	"fingerpost/api"
	"math/rand"
	"slices"
	"testing"
)

// model is a plan as the chapter's words tell it: of each destination what was noted, in order, and when it was told.
type model struct {
	r     Rules
	fulls []int64
	notes [8][]noted
}

type noted struct {
	now    int64
	k      api.Key
	urgent bool
	told   bool
}

// first is when the sequence of what was noted last was first noted.
func (m *model) first(dest int) int64 {
	l := m.notes[dest]
	first := l[0].now
	for at := 1; at < len(l); at++ {
		was, k := l[at-1].k, l[at].k
		if k.Epoch > was.Epoch || k.Epoch == was.Epoch && k.Seq > was.Seq {
			first = l[at].now
		}
	}
	return first
}

func (m *model) waits(dest int) bool {
	return slices.ContainsFunc(m.notes[dest], func(n noted) bool { return !n.told })
}

func (m *model) urgent(dest int) bool {
	return slices.ContainsFunc(m.notes[dest], func(n noted) bool { return !n.told && n.urgent })
}

// those are the destinations that wait, and of which something else holds.
func (m *model) those(holds func(dest int) bool) []int {
	var l []int
	for dest := range 8 {
		if m.waits(dest) && holds(dest) {
			l = append(l, dest)
		}
	}
	return l
}

func (m *model) all(int) bool { return true }

func (m *model) due(now int64) (bool, []int) {
	full := len(m.fulls) == 0 || now-m.fulls[len(m.fulls)-1] >= int64(m.r.Period)
	l := m.those(func(dest int) bool {
		return full || m.urgent(dest) || now-m.first(dest) >= int64(m.r.Settle)
	})
	for _, dest := range l {
		for at := range m.notes[dest] {
			m.notes[dest][at].told = true
		}
	}
	if full {
		m.fulls = append(m.fulls, now)
		return true, nil
	}
	return false, l
}

func (m *model) next() int64 {
	if len(m.fulls) == 0 {
		return 0
	}
	least := m.fulls[len(m.fulls)-1] + int64(m.r.Period)
	for _, dest := range m.those(m.all) {
		at := m.first(dest) + int64(m.r.Settle)
		if m.urgent(dest) {
			at = 0
		}
		least = min(least, at)
	}
	return least
}

// P20.1 to P20.3: against the model, time going on, standing, and now and then back.
func TestAgainstModel(t *testing.T) {
	r := rand.New(rand.NewSource(20))
	fulls, parts := 0, 0
	for range 300 {
		m := &model{r: Rules{Period: 1 + r.Intn(25), Settle: r.Intn(12)}}
		p := made(t, m.r.Period, m.r.Settle)
		now := int64(r.Intn(10))
		for range 150 {
			now = max(0, now+int64(r.Intn(5)-1))
			if r.Intn(3) > 0 {
				dest, k, urgent := r.Intn(8), key(uint32(r.Intn(2)), uint32(r.Intn(4)), r.Intn(4)), r.Intn(8) == 0
				note(t, p, now, dest, k, urgent)
				m.notes[dest] = append(m.notes[dest], noted{now: now, k: k, urgent: urgent})
			} else {
				full, l := p.Due(now)
				if wantFull, want := m.due(now); full != wantFull || !slices.Equal(l, want) {
					t.Errorf("Due(%d): %v, %v, not %v, %v", now, full, l, wantFull, want)
				}
				if full {
					fulls++
				} else if len(l) > 0 {
					parts++
				}
			}
			waits(t, "model", p, m.those(m.all)...)
			next(t, "model", p, m.next())
			if t.Failed() {
				return
			}
		}
	}
	if fulls < 1000 || parts < 1000 {
		t.Errorf("all was told %d times, parts %d times", fulls, parts)
	}
}

// P20.4: if Due is asked each tick, no news wait longer than Settle ticks from when their sequence was noted, nor longer than the Period, whatever newer ones come meanwhile; Next tells when, if nothing else comes.
func TestNoNewsWaitLong(t *testing.T) {
	r := rand.New(rand.NewSource(204))
	for range 300 {
		rules := Rules{Period: 1 + r.Intn(20), Settle: r.Intn(25)}
		p := made(t, rules.Period, rules.Settle)
		first, since, seqs := map[int]int64{}, map[int]int64{}, map[int]uint32{}
		for now := range int64(200) {
			for range r.Intn(3) {
				dest := r.Intn(8)
				if _, ok := since[dest]; !ok {
					since[dest], first[dest] = now, now
				}
				if r.Intn(4) == 0 && seqs[dest] < 63 {
					seqs[dest]++
					first[dest] = now
				}
				note(t, p, now, dest, key(0, seqs[dest], r.Intn(16)), r.Intn(20) == 0)
			}
			at, _ := p.Next()
			full, l := p.Due(now)
			if (full || len(l) > 0) != (at <= now) {
				t.Fatalf("Next: %d, at %d: %v, %v", at, now, full, l)
			}
			for dest := range since {
				if full || slices.Contains(l, dest) {
					delete(since, dest)
				} else if now-first[dest] >= int64(rules.Settle) || now-since[dest] >= int64(rules.Period) {
					t.Fatalf("%d waits since %d, of its sequence since %d, at %d: %v", dest, since[dest], first[dest], now, rules)
				}
			}
		}
	}
}
