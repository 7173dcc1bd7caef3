package rib

import (
	"fingerpost/api"
	"fingerpost/proof"
	"fingerpost/rank"
	"math/rand"
	"slices"
	"testing"
)

// model is a table as the chapter's words tell it.
type model struct {
	self  int
	r     Rules
	since map[[2]int]int64 // by destinations, and neighbours that offer something
	known map[[2]int]proof.Known
	last  map[[2]int]api.Key // of those that are held down
	until map[[2]int]int64
	went  map[int]int // by destinations that have a route
}

func newModel(self int, r Rules) *model {
	return &model{self, r, map[[2]int]int64{}, map[[2]int]proof.Known{}, map[[2]int]api.Key{}, map[[2]int]int64{}, map[int]int{}}
}

// best are the neighbours with the best offers.
func (m *model) best(dest int) []int {
	var l []int
	for from := range 8 {
		k, ok := m.known[[2]int{dest, from}]
		if !ok {
			continue
		}
		if len(l) > 0 {
			c := rank.Compare(k.Key, m.known[[2]int{dest, l[0]}].Key)
			if c < 0 {
				continue
			}
			if c > 0 {
				l = nil
			}
		}
		l = append(l, from)
	}
	return l
}

func (m *model) route(dest int) {
	l := m.best(dest)
	if len(l) == 0 {
		delete(m.went, dest)
	} else if next, ok := m.went[dest]; !ok || !slices.Contains(l, next) {
		m.went[dest] = l[0]
	}
}

func (m *model) offer(now int64, from int, k proof.Known, floor api.Key, has bool) (int, api.Errno) {
	at := [2]int{k.Dest, from}
	mine, any := m.known[at]
	until, held := m.until[at]
	switch {
	case k.Dest == m.self || from == m.self || now < 0 || now > maxTick:
		return 0, api.ErrArg
	case has && rank.Compare(floor, k.Key) > 0, any && rank.Compare(mine.Key, k.Key) > 0:
		return 0, api.ErrOld
	case held && now < until && !rank.Newer(k.Key, m.last[at]):
		return 0, api.ErrHold
	case any && mine.Key == k.Key:
		m.since[at] = now
		return Fresh, api.OK
	}
	was, had := m.known[[2]int{k.Dest, m.went[k.Dest]}]
	_, routed := m.went[k.Dest]
	m.known[at], m.since[at] = k, now
	delete(m.until, at)
	delete(m.last, at)
	m.route(k.Dest)
	switch {
	case m.went[k.Dest] != from:
		return Kept, api.OK
	case !routed || !had:
		return First, api.OK
	case rank.Newer(k.Key, was.Key):
		return Newer, api.OK
	}
	return Nearer, api.OK
}

func (m *model) take(now int64, which func(at [2]int) bool) []int {
	var l []int
	for dest := range 8 {
		for from := range 8 {
			at := [2]int{dest, from}
			k, ok := m.known[at]
			if !ok || !which(at) {
				continue
			}
			if m.went[dest] == from {
				l = append(l, dest)
			}
			m.last[at], m.until[at] = k.Key, now+int64(m.r.Hold)
			delete(m.known, at)
			delete(m.since, at)
		}
	}
	for dest := range 8 {
		m.route(dest)
	}
	return l
}

func (m *model) prune(dest int, floor api.Key) {
	for from := range 8 {
		at := [2]int{dest, from}
		if k, ok := m.known[at]; ok && rank.Compare(floor, k.Key) > 0 {
			delete(m.known, at)
			delete(m.since, at)
		}
	}
	m.route(dest)
}

// holds holds a table to the model in all that it tells.
func (m *model) holds(t *testing.T, x *Table) {
	t.Helper()
	var all []Route
	for dest := range 8 {
		next, ok := m.went[dest]
		var want Route
		if ok {
			at := [2]int{dest, next}
			want = Route{dest, m.known[at].Key, next, true, m.since[at], m.known[at]}
			all = append(all, want)
		}
		if r, is := x.Get(dest); is != ok || !alike(r, want) {
			t.Errorf("Get(%d): %v, %v, not %v", dest, r, is, want)
		}
		if n, is := x.Lookup(dest); is != ok || n != next {
			t.Errorf("Lookup(%d): %d, %v, not %d", dest, n, is, next)
		}
		many := 0
		for from := range 8 {
			if _, ok := m.known[[2]int{dest, from}]; ok {
				many++
			}
		}
		if n := x.Offers(dest); n != many {
			t.Errorf("Offers(%d): %d, not %d", dest, n, many)
		}
	}
	if l := x.Valid(); !slices.EqualFunc(l, all, alike) {
		t.Errorf("Valid: %v, not %v", l, all)
	}
}

// drawn is a key of few, so that many are alike.
func drawn(r *rand.Rand) api.Key {
	return key(uint32(r.Intn(2)), uint32(r.Intn(3)), r.Intn(4))
}

// P19.1 to P19.3: against the model; each outcome comes often enough.
func TestAgainstModel(t *testing.T) {
	r := rand.New(rand.NewSource(19))
	came, refused := [6]int{}, map[api.Errno]int{}
	for range 400 {
		m := newModel(r.Intn(8), Rules{Hold: r.Intn(5), Life: 1 + r.Intn(20)})
		x := made(t, m.self, m.r)
		now := int64(0)
		for range 200 {
			now = max(0, now+int64(r.Intn(5)-1))
			at, k := r.Intn(8), drawn(r)
			switch kind := r.Intn(16); {
			case kind == 0:
				want := m.take(now, func(p [2]int) bool { return p[1] == at })
				dests(t, "Break", x.Break(now, at), want...)
			case kind == 1:
				want := m.take(now, func(p [2]int) bool { return now-m.since[p] >= int64(m.r.Life) })
				dests(t, "Expire", x.Expire(now), want...)
			case kind == 2 && at != m.self:
				is(t, "Prune", x.Prune(at, k), api.OK)
				m.prune(at, k)
			default:
				from, floor, has := r.Intn(8), drawn(r), r.Intn(5) == 0
				want, f := m.offer(now, from, known(at, from, k), floor, has)
				got, e := x.Offer(now, from, known(at, from, k), floor, has)
				if got != want || e != f {
					t.Errorf("Offer(%d, %d, %d, %v): %d, %d, not %d, %d", now, from, at, k, got, e, want, f)
				}
				came[got]++
				refused[e]++
			}
			m.holds(t, x)
			if t.Failed() {
				return
			}
		}
	}
	if slices.Min(came[:]) < 300 || refused[api.ErrOld] < 300 || refused[api.ErrHold] < 300 || refused[api.ErrArg] < 300 {
		t.Errorf("too few: %v, %v", came, refused)
	}
}

// P19.4: where floors are what is offered against, and offers are pruned when one is raised, no route is worse than its floor.
func TestNoRouteBelowItsFloor(t *testing.T) {
	r := rand.New(rand.NewSource(194))
	held := 0
	for range 300 {
		x, floors := made(t, 0, Rules{Hold: r.Intn(4), Life: 1 + r.Intn(9)}), rank.New()
		for now := range int64(150) {
			dest := 1 + r.Intn(3)
			switch r.Intn(8) {
			case 0:
				x.Break(now, r.Intn(8))
			case 1:
				x.Expire(now)
			case 2, 3:
				k, ok := drawn(r), true
				if route, is := x.Get(dest); r.Intn(4) > 0 {
					k, ok = route.Key, is // what is told
				}
				if !ok {
					continue
				}
				if up, _ := floors.Raise(dest, k); up {
					is(t, "Prune", x.Prune(dest, k), api.OK)
				}
			default:
				floor, has := floors.Get(dest)
				from := 1 + r.Intn(7)
				x.Offer(now, from, known(dest, from, drawn(r)), floor, has)
			}
			for _, route := range x.Valid() {
				if !floors.May(route.Dest, route.Key) {
					t.Fatalf("the route %v is worse than its floor", route)
				}
				if _, has := floors.Get(route.Dest); has {
					held++
				}
			}
		}
	}
	if held < 5000 {
		t.Errorf("routes with floors: %d", held)
	}
}

// P19.5: a neighbour's offers stand, whatever the others do: they come to the same errors as in a table that hears it alone; the route is as good, or better; and without the others it is the same one.
func TestNobodyTakesAwayFromAnother(t *testing.T) {
	r := rand.New(rand.NewSource(195))
	stood := 0
	for range 300 {
		rules := Rules{Hold: r.Intn(4), Life: 1 + r.Intn(30)}
		x, alone, one := made(t, 0, rules), made(t, 0, rules), 1+r.Intn(7)
		for now := range int64(1 + r.Intn(150)) {
			from, dest := 1+r.Intn(7), 1+r.Intn(3)
			if r.Intn(3) == 0 {
				from = one
			}
			switch r.Intn(10) {
			case 0:
				x.Break(now, from)
				if from == one {
					alone.Break(now, from)
				}
			case 1:
				x.Expire(now)
				alone.Expire(now)
			default:
				k := known(dest, from, drawn(r))
				_, e := x.Offer(now, from, k, api.Key{}, false)
				if from == one {
					_, f := alone.Offer(now, from, k, api.Key{}, false)
					is(t, "the same error", e, f)
				}
			}
			for _, route := range alone.Valid() {
				stood++
				if got, ok := x.Get(route.Dest); !ok || rank.Compare(got.Key, route.Key) < 0 {
					t.Fatalf("%v, though %v stands", got, route)
				}
			}
		}
		for from := range 8 {
			if from != one {
				x.Break(200, from)
			}
		}
		if l := x.Valid(); !slices.EqualFunc(l, alone.Valid(), alike) {
			t.Fatalf("%v, not %v", l, alone.Valid())
		}
	}
	if stood < 5000 {
		t.Errorf("routes of one: %d", stood)
	}
}
