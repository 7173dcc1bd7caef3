package mesh

import (
	"bytes"
	"fingerpost/api"
	"fingerpost/count"
	"fingerpost/fib"
	"fingerpost/frame"
	"fingerpost/piece"
	"fingerpost/rank"
	"fingerpost/router"
	"math/rand"
	"reflect"
	"testing"
)

// world is a network in which anything may happen, and what it must never go back behind.
type world struct {
	*testing.T
	*Mesh
	r       *rand.Rand
	c       Config
	boots   [api.MaxNodes]uint64
	own     [api.MaxNodes]api.Key // the last own sequence; had: whether there was any
	had     [api.MaxNodes]bool
	spent   [api.MaxNodes]uint32
	floors  [api.MaxNodes][api.MaxNodes]api.Key
	low     [api.MaxNodes][api.MaxNodes]bool // whether there was a floor
	roots   [api.MaxNodes][api.MaxNodes]int
	signed  map[[2]int][]byte // the record of each honest node's epochs, as honest ones told it
	joiners map[[2]int]*joiner
	bad     villains
	refused map[api.Errno]int // how often a frame was refused, by what
	hops    int               // that there were, in all steps
	led     int               // those of them that were by bad nodes, to honest ones
}

// joiner joins what one node sends another one, in its boot.
type joiner struct {
	boot uint64
	*piece.Joiner
}

func newWorld(t *testing.T, seed int64, c Config) *world {
	t.Helper()
	w := &world{T: t, Mesh: made(t, c), r: rand.New(rand.NewSource(seed)), c: c, signed: map[[2]int][]byte{}, joiners: map[[2]int]*joiner{}, refused: map[api.Errno]int{}}
	w.bad = newVillains(w)
	w.sound()
	return w
}

// opened is a letter's kind and body, when it is whole: false: it is none that was sealed so, or a piece that leaves others to come.
func opened(c Config, joiners map[[2]int]*joiner, l Letter) (int, []byte, bool) {
	f, e := frame.Open(Key(c, l.From, l.To), l.Bytes)
	if e != api.OK || f.From != l.From {
		return 0, nil, false
	}
	at := [2]int{l.From, l.To}
	if joiners[at] == nil || joiners[at].boot != f.Boot {
		joiners[at] = &joiner{f.Boot, piece.New()}
	}
	if f.Kind != frame.IsPiece {
		return f.Kind, f.Body, true
	}
	p, e := piece.Get(f.Body)
	if e != api.OK {
		return 0, nil, false
	}
	body, done, _ := joiners[at].Take(p)
	if !done || len(body) == 0 {
		return 0, nil, false
	}
	return int(body[0]), body[1:], true
}

// tick lets an honest node tick, and looks at what it tells.
func (w *world) tick(id int) {
	w.Helper()
	was := w.Len()
	e := w.Tick(id)
	r := w.Router(id)
	if dead := r.Dead(); e != dead {
		w.Fatalf("Tick of %d: %d, but it is dead by %d", id, e, dead)
	}
	// At once: it may be dead ahead of the next look at all.
	if e == api.OK {
		w.lasts(id, r)
	}
	for at := was; at < w.Len(); at++ {
		l, _ := w.Look(at)
		if kind, body, ok := opened(w.c, w.joiners, l); ok {
			w.tells(id, kind, body)
		}
	}
}

// tells holds an honest node to what it tells: its own sequence, or what a floor stands for; of each epoch one record alone.
func (w *world) tells(id, kind int, body []byte) {
	w.Helper()
	switch kind {
	case frame.IsUpdate:
		u, e := frame.GetUpdate(body)
		is(w.T, "GetUpdate", e, api.OK)
		for _, x := range u.Entries {
			low, ok := w.Router(id).Floor(x.Dest)
			if x.Dest == id {
				low, ok = w.Router(id).Own()
			}
			if !ok || rank.Compare(x.Key, low) > 0 || x.Dest == id && x.Key != low {
				w.Fatalf("%d tells %v of %d, above %v, %v", id, x.Key, x.Dest, low, ok)
			}
		}
	case frame.IsRenewal:
		x, e := frame.GetRenewal(body)
		is(w.T, "GetRenewal", e, api.OK)
		at := [2]int{x.Record.Dest, int(x.Record.Epoch)}
		if was, ok := w.signed[at]; ok && w.Honest(x.Record.Dest) && !bytes.Equal(was, body) {
			w.Fatalf("%d tells another record of the epoch %d of %d", id, at[1], at[0])
		}
		w.signed[at] = body
	}
}

// arrive delivers a frame: who refuses it tells what it told, and counts it.
func (w *world) arrive(at int) {
	w.Helper()
	l, e := w.Look(at)
	is(w.T, "Look", e, api.OK)
	r, linked := w.Router(l.To), w.Linked(l.From, l.To)
	was, counted := telled(r), r.Counters()
	e = w.Deliver(at)
	if e != api.OK {
		w.refused[e]++
	}
	switch {
	case !linked:
		is(w.T, "not linked", e, api.ErrPeer)
	case !w.Honest(l.To):
		is(w.T, "to a bad node", e, api.OK)
	case r == nil:
		is(w.T, "to one that doesn't run", e, api.ErrState)
	case was.Dead != api.OK:
		is(w.T, "to a dead one", e, was.Dead)
	case r.Dead() != api.OK:
		is(w.T, "what kills it", e, r.Dead())
	default:
		turned := count.Diff(counted, r.Counters())
		if turned[count.Frames] != 1 || e != api.OK && turned[count.Of(e)] < 1 {
			w.Fatalf("Deliver: %d, but counted are %v", e, turned)
		}
		if now := telled(r); e != api.OK && !reflect.DeepEqual(now, was) {
			w.Fatalf("refused by %d, but %d tells %v, not %v", e, l.To, now, was)
		}
	}
	w.bad.listen()
}

// start makes a node's router anew.
func (w *world) start(id int) {
	w.Helper()
	if e := w.Start(id); e != api.OK && e != api.ErrFull {
		w.Fatalf("Start of %d: %d", id, e)
	}
}

// sound holds all to what never may be, whatever happens.
func (w *world) sound() {
	w.Helper()
	for id := range w.c.Nodes {
		if r := w.Router(id); r.Dead() == api.OK {
			w.lasts(id, r)
		}
	}
	tables := w.Fibs()
	for id, table := range tables {
		w.hops += len(table)
		if !w.Honest(id) && len(table) > 0 {
			w.Fatalf("the bad node %d has hops", id)
		}
	}
	for dest := range w.c.Nodes {
		if l := fib.Loops(tables, dest); len(l) > 0 {
			w.Fatalf("loops to %d: %v", dest, l)
		}
	}
	for id := range w.c.Nodes {
		w.stands(id)
	}
}

// lasts holds a node that runs to what it told in the past, in whatever boot.
func (w *world) lasts(id int, r *router.Router) {
	w.Helper()
	if k, ok := r.Own(); ok {
		if r.Boot() == w.boots[id] && w.had[id] && rank.Compare(k, w.own[id]) < 0 || r.Boot() > w.boots[id] && w.had[id] && !rank.Newer(k, w.own[id]) {
			w.Fatalf("%d issues %v in the boot %d behind %v", id, k, r.Boot(), w.own[id])
		}
		w.own[id], w.had[id], w.boots[id] = k, true, r.Boot()
	}
	if r.Boot() < w.boots[id] || r.Spent() < w.spent[id] {
		w.Fatalf("%d: boot %d, key %d, behind %d, %d", id, r.Boot(), r.Spent(), w.boots[id], w.spent[id])
	}
	w.spent[id] = r.Spent()
	for dest := range w.c.Nodes {
		k, ok := r.Floor(dest)
		if w.low[id][dest] && (!ok || rank.Compare(k, w.floors[id][dest]) < 0) {
			w.Fatalf("the floor of %d at %d: %v, %v, behind %v", dest, id, k, ok, w.floors[id][dest])
		}
		w.floors[id][dest], w.low[id][dest] = k, ok
		n := r.Roots(dest)
		if n < w.roots[id][dest] {
			w.Fatalf("%d knows %d records of %d, behind %d", id, n, dest, w.roots[id][dest])
		}
		w.roots[id][dest] = n
	}
}

// stands holds a node's routes to its own floor, to the next node's one, and to what bad nodes were shown.
func (w *world) stands(id int) {
	w.Helper()
	r := w.Router(id)
	for dest := range w.c.Nodes {
		x, ok := r.Route(dest)
		if !ok {
			continue
		}
		if w.low[id][dest] && rank.Compare(w.floors[id][dest], x.Key) > 0 {
			w.Fatalf("%d has the route %v to %d, below its floor %v", id, x.Key, dest, w.floors[id][dest])
		}
		next := x.Next
		switch {
		case !w.Honest(next):
			w.bad.bound(id, x)
		case next == dest && rank.Compare(w.own[dest], x.Key) <= 0:
			w.Fatalf("%d has the route %v to %d, which is at %v", id, x.Key, dest, w.own[dest])
		case next != dest && (!w.low[next][dest] || rank.Compare(w.floors[next][dest], x.Key) <= 0):
			w.Fatalf("%d goes to %d by %d with %v, not below the floor %v, %v", id, dest, next, x.Key, w.floors[next][dest], w.low[next][dest])
		}
	}
}
