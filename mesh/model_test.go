package mesh

import (
	"fingerpost/api"
	"fingerpost/frame"
	"fingerpost/router"
	"fingerpost/slate"
	"math/rand"
	"reflect"
	"slices"
	"testing"
)

// model is a network as the chapter's words tell it, with routers and devices of its own.
type model struct {
	c       Config
	devices map[int]*slate.Slate
	routers map[int]*router.Router
	linked  map[[2]int]bool // the lesser one ahead
	flight  []Letter
	seen    []Letter
}

func newModel(c Config) *model {
	x := &model{c: c, devices: map[int]*slate.Slate{}, routers: map[int]*router.Router{}, linked: map[[2]int]bool{}}
	for id := range c.Nodes {
		x.devices[id], _ = slate.New(c.Sectors)
		if !x.bad(id) {
			x.routers[id], _ = router.New(Setup(c, id), x.devices[id])
		}
	}
	for _, l := range c.Links {
		x.linked[pair(l[0], l[1])] = true
	}
	return x
}

func pair(a, b int) [2]int { return [2]int{min(a, b), max(a, b)} }

func (x *model) node(id int) bool { return 0 <= id && id < x.c.Nodes }

func (x *model) bad(id int) bool { return slices.Contains(x.c.Bad, id) }

// refuses is why nothing is done to a node that is to run, or not.
func (x *model) refuses(id int, runs bool) api.Errno {
	if !x.node(id) {
		return api.ErrArg
	}
	if x.bad(id) {
		return api.ErrPeer
	}
	if (x.routers[id] != nil) != runs {
		return api.ErrState
	}
	return api.OK
}

func (x *model) setOut(l Letter) api.Errno {
	if !x.linked[pair(l.From, l.To)] {
		return api.ErrPeer
	}
	return x.room(l)
}

func (x *model) room(l Letter) api.Errno {
	if len(x.flight) == 2048 {
		return api.ErrFull
	}
	x.flight = append(x.flight, l)
	return api.OK
}

func (x *model) out(i int) Letter {
	l := x.flight[i]
	x.flight = slices.Concat(x.flight[:i], x.flight[i+1:])
	return l
}

func (x *model) tick(id int) api.Errno {
	if e := x.refuses(id, true); e != api.OK {
		return e
	}
	outs, e := x.routers[id].Tick()
	for _, o := range outs {
		x.setOut(Letter{id, o.To, o.Bytes})
	}
	return e
}

func (x *model) deliver(i int) api.Errno {
	if i < 0 || i >= len(x.flight) {
		return api.ErrArg
	}
	l := x.out(i)
	if !x.linked[pair(l.From, l.To)] {
		return api.ErrPeer
	}
	if x.bad(l.To) {
		x.seen = append(x.seen, l)
		return api.OK
	}
	if x.routers[l.To] == nil {
		return api.ErrState
	}
	return x.routers[l.To].Take(l.Bytes)
}

func (x *model) crash(id, writes, bytes int) api.Errno {
	e := x.refuses(id, true)
	if e == api.OK {
		x.routers[id] = nil
		e = x.devices[id].Crash(writes, bytes)
	}
	return e
}

func (x *model) start(id int) api.Errno {
	e := x.refuses(id, false)
	if e == api.OK {
		x.routers[id], e = router.New(Setup(x.c, id), x.devices[id])
	}
	return e
}

func (x *model) fuse(id, steps int) api.Errno {
	e := x.refuses(id, true)
	if e == api.OK {
		e = x.devices[id].Fuse(steps)
	}
	return e
}

func (x *model) inject(from, to int, b []byte) api.Errno {
	if !x.node(from) || !x.node(to) || !x.bad(from) || len(b) > 16384 {
		return api.ErrArg
	}
	return x.setOut(Letter{from, to, b})
}

func (x *model) forge(from, to int, f frame.Frame) api.Errno {
	if !x.node(from) || !x.node(to) || !x.bad(from) {
		return api.ErrArg
	}
	f.From, f.To = from, to
	b, e := frame.Seal(Key(x.c, from, to), f)
	if e != api.OK {
		return e
	}
	return x.setOut(Letter{from, to, b})
}

func (x *model) link(a, b int, up bool) api.Errno {
	if !x.node(a) || !x.node(b) || a == b {
		return api.ErrArg
	}
	x.linked[pair(a, b)] = up
	return api.OK
}

// any is something that is done to both, and what they answer.
func (x *model) any(m *Mesh, r *rand.Rand) (string, api.Errno, api.Errno) {
	id, other, at := r.Intn(x.c.Nodes), r.Intn(x.c.Nodes), r.Intn(len(x.flight)+1)
	if r.Intn(20) == 0 {
		id, other, at = r.Intn(20)-6, r.Intn(20)-6, r.Intn(2*len(x.flight)+2)-1
	}
	switch r.Intn(24) {
	case 0:
		return "Lose", m.Lose(at), x.lose(at)
	case 1:
		return "Twice", m.Twice(at), x.twice(at)
	case 2:
		b := make([]byte, r.Intn(60)*r.Intn(300))
		r.Read(b)
		return "Inject", m.Inject(id, other, b), x.inject(id, other, b)
	case 3, 4:
		f := hello(r.Uint64() >> r.Intn(64))
		f.Kind = r.Intn(3) * r.Intn(4)
		return "Forge", m.Forge(id, other, f), x.forge(id, other, f)
	case 5:
		writes, bytes := r.Intn(9)-1, r.Intn(80)-4
		return "Crash", m.Crash(id, writes, bytes), x.crash(id, writes, bytes)
	case 6, 7, 8:
		return "Start", m.Start(id), x.start(id)
	case 9:
		steps := r.Intn(60) - 6
		return "Fuse", m.Fuse(id, steps), x.fuse(id, steps)
	case 10:
		up := r.Intn(3) > 0
		return "Link", m.Link(id, other, up), x.link(id, other, up)
	case 11, 12, 13, 14, 15:
		return "Tick", m.Tick(id), x.tick(id)
	}
	return "Deliver", m.Deliver(at), x.deliver(at)
}

func (x *model) lose(i int) api.Errno {
	if i < 0 || i >= len(x.flight) {
		return api.ErrArg
	}
	x.out(i)
	return api.OK
}

func (x *model) twice(i int) api.Errno {
	if i < 0 || i >= len(x.flight) {
		return api.ErrArg
	}
	return x.room(x.flight[i])
}

// agrees holds a network to all that the model tells.
func (x *model) agrees(t *testing.T, what string, m *Mesh) {
	t.Helper()
	flies(t, what, m, x.flight...)
	saw(t, what, m, x.seen...)
	tables := m.Fibs()
	if len(tables) != x.c.Nodes {
		t.Fatalf("%s: %d tables", what, len(tables))
	}
	for id := range x.c.Nodes {
		r, twin := m.Router(id), x.routers[id]
		if (r == nil) != (twin == nil) || !reflect.DeepEqual(telled(r), telled(twin)) || !slices.Equal(r.Counters(), twin.Counters()) {
			t.Fatalf("%s: %d tells %v, not %v", what, id, telled(r), telled(twin))
		}
		if !slices.Equal(tables[id], twin.Fib()) || m.Honest(id) == x.bad(id) {
			t.Fatalf("%s: %d: %v, honest: %v", what, id, tables[id], m.Honest(id))
		}
	}
	for a := range x.c.Nodes {
		for b := range x.c.Nodes {
			if m.Linked(a, b) != x.linked[pair(a, b)] {
				t.Fatalf("%s: Linked(%d, %d): %v", what, a, b, m.Linked(a, b))
			}
		}
	}
	if !reflect.DeepEqual(m.Config(), x.c) {
		t.Fatalf("%s: Config: %v", what, m.Config())
	}
}

// P27.2, P27.3, R5: whatever is done, a network answers and tells what its words say.
func TestModel(t *testing.T) {
	answered := map[string]map[api.Errno]int{}
	for seed := range int64(12) {
		r := rand.New(rand.NewSource(seed))
		c := row(4, 2)
		c.Links = append(c.Links, [2]int{3, 0})
		m, x := made(t, c), newModel(c)
		for step := range 1500 {
			what, got, want := x.any(m, r)
			if got != want || m.Len() != len(x.flight) {
				t.Fatalf("seed %d, step %d: %s: %d, %d on their way, not %d, %d", seed, step, what, got, m.Len(), want, len(x.flight))
			}
			if answered[what] == nil {
				answered[what] = map[api.Errno]int{}
			}
			answered[what][got]++
			if step%25 == 0 {
				x.agrees(t, what, m)
			}
		}
		x.agrees(t, "at last", m)
	}
	for what, l := range map[string][]api.Errno{
		"Tick":    {api.OK, api.ErrArg, api.ErrPeer, api.ErrState, api.ErrDown},
		"Deliver": {api.OK, api.ErrArg, api.ErrPeer, api.ErrState, api.ErrDown, api.ErrReplay, api.ErrOld},
		"Lose":    {api.OK, api.ErrArg},
		"Twice":   {api.OK, api.ErrArg},
		"Inject":  {api.OK, api.ErrArg, api.ErrPeer},
		"Forge":   {api.OK, api.ErrArg, api.ErrPeer},
		"Crash":   {api.OK, api.ErrArg, api.ErrPeer, api.ErrState},
		"Start":   {api.OK, api.ErrArg, api.ErrPeer, api.ErrState},
		"Fuse":    {api.OK, api.ErrArg, api.ErrPeer, api.ErrState, api.ErrDown},
		"Link":    {api.OK, api.ErrArg},
	} {
		for _, e := range l {
			if answered[what][e] == 0 {
				t.Errorf("%s never answered %d: %v", what, e, answered[what])
			}
		}
	}
}
