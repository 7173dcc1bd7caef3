package mesh

import (
	"fingerpost/api"
	"fingerpost/diary"
	"fingerpost/fib"
	"fingerpost/frame"
	"fingerpost/router"
	"fingerpost/slate"
	"math"
	"reflect"
	"slices"
	"testing"
)

// P27.2: the chapter's example: the ends of a row have routes to each other, by the middle.
func TestExample(t *testing.T) {
	for _, rules := range []router.Rules{usual(), quick()} {
		c := row(3)
		c.Rules = rules
		m := made(t, c)
		rounds(m, 16)
		want := [][]fib.Hop{
			{{Dest: 1, Next: 1, Metric: 1}, {Dest: 2, Next: 1, Metric: 2}},
			{{Dest: 0, Next: 0, Metric: 1}, {Dest: 2, Next: 2, Metric: 1}},
			{{Dest: 0, Next: 1, Metric: 2}, {Dest: 1, Next: 1, Metric: 1}},
		}
		if got := m.Fibs(); !reflect.DeepEqual(got, want) {
			t.Errorf("%v, not %v", got, want)
		}
	}
}

// P27.3: tables are there of each node, though there be none, and are nobody else's.
func TestFibs(t *testing.T) {
	m := made(t, row(4, 3))
	if l := m.Fibs(); len(l) != 4 || len(slices.Concat(l...)) != 0 {
		t.Errorf("at first: %v", l)
	}
	rounds(m, 16)
	is(t, "Crash", m.Crash(0, 0, 0), api.OK)
	l := m.Fibs()
	if len(l) != 4 || len(l[0]) != 0 || len(l[3]) != 0 || fib.Lookup(l[1], 2) != 2 || fib.Lookup(l[2], 1) != 1 {
		t.Errorf("behind a crash: %v", l)
	}
	for id, table := range l {
		if !slices.Equal(table, m.Router(id).Fib()) {
			t.Errorf("the table of %d: %v, not %v", id, table, m.Router(id).Fib())
		}
	}
	clear(l[1])
	if again := m.Fibs(); fib.Lookup(again[1], 2) != 2 {
		t.Errorf("what was handed out is the network's own: %v", again)
	}
}

// P27.2: what a tick lets set out sets out one by one, by the links that there are; what is lost so is no error.
func TestTick(t *testing.T) {
	c := row(3)
	m := made(t, c)
	d, _ := slate.New(c.Sectors)
	twin, _ := router.New(Setup(c, 1), d)
	outs, _ := twin.Tick()
	is(t, "Tick", m.Tick(1), api.OK)
	flies(t, "to both", m, Letter{1, 0, outs[0].Bytes}, Letter{1, 2, outs[1].Bytes})
	is(t, "Link", m.Link(2, 1, false), api.OK)
	is(t, "Tick", m.Tick(2), api.OK)
	if m.Len() != 2 {
		t.Errorf("%d are on their way", m.Len())
	}
	is(t, "Tick", m.Tick(0), api.OK)
	if l, _ := m.Look(2); m.Len() != 3 || l.From != 0 || l.To != 1 {
		t.Errorf("%d are on their way, at last %v", m.Len(), l)
	}
	if r := m.Router(2); r.Now() != 1 {
		t.Errorf("the time of 2: %d", r.Now())
	}
}

// Errors: in their order, of all that is done to a node.
func TestNodeErrors(t *testing.T) {
	m := made(t, row(4, 2))
	is(t, "Crash", m.Crash(1, 0, 0), api.OK)
	for _, x := range []struct {
		id   int
		e    api.Errno
		runs api.Errno // of Start
	}{{1, api.ErrState, api.OK}, {2, api.ErrPeer, api.ErrPeer}, {4, api.ErrArg, api.ErrArg}, {0, api.OK, api.ErrState}} {
		for _, id := range append([]int{x.id}, noIds...) {
			if id != x.id {
				x.e, x.runs = api.ErrArg, api.ErrArg
			}
			is(t, "Tick", m.Tick(id), x.e)
			is(t, "Fuse", m.Fuse(id, -1), x.e)
			is(t, "Crash", m.Crash(id, 0, 0), x.e)
			if x.e == api.OK {
				is(t, "Start", m.Start(id), api.OK)
			}
			is(t, "Start", m.Start(id), x.runs)
		}
	}
}

// P27.3: a node that crashed is made anew on its device, as that tells it.
func TestCrash(t *testing.T) {
	m := made(t, row(3))
	rounds(m, 20)
	floors := telled(m.Router(1)).Floors
	own, _ := m.Router(1).Own()
	is(t, "Tick", m.Tick(1), api.OK)
	many := m.Len()
	is(t, "Crash", m.Crash(1, 0, 0), api.OK)
	if m.Router(1) != nil || !m.Honest(1) || m.Len() != many {
		t.Errorf("a node that crashed: %v, honest: %v, %d on their way", m.Router(1), m.Honest(1), m.Len())
	}
	rounds(m, 1)
	is(t, "Start", m.Start(1), api.OK)
	r := m.Router(1)
	if now := telled(r); now.Boot != 2 || now.Now != 0 || now.Floors != floors || len(now.Fib) != 0 || now.Any {
		t.Errorf("anew: %v; floors %v", now, floors)
	}
	is(t, "Tick", m.Tick(1), api.OK)
	if k, _ := r.Own(); k.Epoch < own.Epoch || k.Epoch == own.Epoch && k.Seq <= own.Seq {
		t.Errorf("issues %v behind %v", k, own)
	}
	rounds(m, 30)
	if f := m.Fibs(); fib.Lookup(f[0], 2) != 1 || fib.Lookup(f[2], 0) != 1 {
		t.Errorf("behind that: %v", f)
	}
}

// P27.3: a crash tells the device how much of what waits lasts.
func TestCrashOfWrites(t *testing.T) {
	for _, x := range []struct{ writes, bytes, lasting int }{{0, 0, 0}, {0, 5, 5}, {1, 0, 64}, {1, 7, 71}, {2, 0, 128}, {math.MaxInt, math.MaxInt, 192}, {-1, -1, 0}, {math.MinInt, 64, 64}} {
		m := made(t, row(2))
		d := m.nodes[0].device
		for at := range 3 {
			is(t, "Write", d.Write(1500+at, slate.Sector(slices.Repeat([]byte{255}, 64))), api.OK)
		}
		is(t, "Crash", m.Crash(0, x.writes, x.bytes), api.OK)
		lasting := 0
		for at := range 3 {
			s, e := d.Read(1500 + at)
			is(t, "Read", e, api.OK)
			for _, b := range s {
				lasting += int(b) / 255
			}
		}
		if lasting != x.lasting {
			t.Errorf("Crash(%d, %d): %d bytes last, not %d", x.writes, x.bytes, lasting, x.lasting)
		}
	}
}

// P27.3: behind so many steps of its device a node is dead; a crash brings its power back.
func TestFuse(t *testing.T) {
	steps := 0
	for fuse := range 40 {
		m := made(t, row(2))
		is(t, "Fuse", m.Fuse(0, fuse), api.OK)
		was := m.nodes[0].device.Steps()
		e := m.Tick(0)
		if e == api.OK {
			break
		}
		steps++
		is(t, "Tick", e, api.ErrDown)
		is(t, "Dead", m.Router(0).Dead(), api.ErrDown)
		if done := m.nodes[0].device.Steps() - was; done != fuse || m.Len() != 0 {
			t.Errorf("fuse %d: %d steps, %d set out", fuse, done, m.Len())
		}
		// It runs, though it be dead.
		is(t, "Start", m.Start(0), api.ErrState)
		is(t, "Tick", m.Tick(0), api.ErrDown)
		is(t, "Fuse", m.Fuse(0, 100), api.ErrDown)
		is(t, "Crash", m.Crash(0, 9, 9), api.OK)
		is(t, "Start", m.Start(0), api.OK)
		is(t, "Tick", m.Tick(0), api.OK)
	}
	if steps == 0 || steps > 35 {
		t.Errorf("a tick takes %d steps", steps)
	}
	m := made(t, row(2))
	is(t, "Fuse", m.Fuse(0, 0), api.OK)
	is(t, "no fuse", m.Fuse(0, -1), api.OK)
	is(t, "Tick", m.Tick(0), api.OK)
}

// P27.3: a node whose device is full dies, as often as it is started.
func TestFullDevice(t *testing.T) {
	c := row(2)
	c.Rules.Rotate, c.Rules.Spring.Height = 1, 0
	c.Sectors = 200
	m := made(t, c)
	e := api.OK
	for range 50 {
		if e = m.Tick(0); e != api.OK {
			break
		}
	}
	is(t, "Tick", e, api.ErrFull)
	for range 2 {
		is(t, "Start", m.Start(0), api.ErrState)
		is(t, "Crash", m.Crash(0, 0, 0), api.OK)
		is(t, "Start", m.Start(0), api.OK)
		is(t, "Tick", m.Tick(0), api.ErrFull)
	}
}

// P27.3: a node whose device tells what no router kept doesn't start, nor does it run then.
func TestStartFails(t *testing.T) {
	m := made(t, row(2))
	is(t, "Crash", m.Crash(0, 0, 0), api.OK)
	_, gen, _ := diary.Load(m.nodes[0].device)
	_, e := diary.Start(m.nodes[0].device, gen, [][]byte{{9}})
	is(t, "diary.Start", e, api.OK)
	for range 2 {
		is(t, "Start", m.Start(0), api.ErrBroken)
		is(t, "Tick", m.Tick(0), api.ErrState)
		is(t, "Crash", m.Crash(0, 0, 0), api.ErrState)
		if m.Router(0) != nil {
			t.Error("it runs")
		}
	}
	is(t, "Tick of another one", m.Tick(1), api.OK)
}

// P27.3: links are both ways, and may be there twice, or not.
func TestLink(t *testing.T) {
	m := made(t, row(3, 1))
	linkedAre(t, m, [2]int{0, 1}, [2]int{1, 2})
	is(t, "Link", m.Link(2, 0, true), api.OK)
	is(t, "Link", m.Link(0, 2, true), api.OK)
	linkedAre(t, m, [2]int{0, 1}, [2]int{1, 2}, [2]int{0, 2})
	is(t, "cut", m.Link(0, 1, false), api.OK)
	is(t, "cut", m.Link(0, 1, false), api.OK)
	is(t, "cut", m.Link(2, 1, false), api.OK)
	linkedAre(t, m, [2]int{0, 2})
	for _, up := range []bool{false, true} {
		for id := range 3 {
			is(t, "to itself", m.Link(id, id, up), api.ErrArg)
		}
		for _, id := range append([]int{3}, noIds...) {
			is(t, "from nobody", m.Link(id, 0, up), api.ErrArg)
			is(t, "to nobody", m.Link(0, id, up), api.ErrArg)
			is(t, "nobody to itself", m.Link(id, id, up), api.ErrArg)
			if m.Linked(id, 0) || m.Linked(0, id) || m.Linked(id, id) {
				t.Errorf("%d is linked", id)
			}
		}
	}
	linkedAre(t, m, [2]int{0, 2})
	// What is on its way isn't lost by that alone.
	is(t, "Tick", m.Tick(0), api.OK)
	m.Link(0, 2, false)
	m.Link(0, 2, true)
	is(t, "Deliver", m.Deliver(0), api.OK)
	if l := m.Router(2).Counters(); l[0] != 1 {
		t.Errorf("counted: %v", l)
	}
}

// P27.3: of nobody nothing.
func TestNobody(t *testing.T) {
	m := made(t, row(3, 1))
	for _, id := range append([]int{3}, noIds...) {
		if m.Honest(id) || m.Router(id) != nil {
			t.Errorf("%d is honest: %v, runs: %v", id, m.Honest(id), m.Router(id))
		}
	}
	if m.Router(0) == nil || m.Router(0) != m.Router(0) || m.Router(1) != nil {
		t.Error("Router")
	}
}

// R1: of no network nothing, and none that nobody made panics.
func TestNil(t *testing.T) {
	var m *Mesh
	for what, e := range map[string]api.Errno{
		"Tick": m.Tick(0), "Deliver": m.Deliver(0), "Lose": m.Lose(0), "Twice": m.Twice(0), "Inject": m.Inject(0, 1, nil), "Forge": m.Forge(0, 1, frame.Frame{}),
		"Crash": m.Crash(0, 0, 0), "Start": m.Start(-1), "Fuse": m.Fuse(9, 0), "Link": m.Link(0, 0, true),
	} {
		is(t, what, e, api.ErrNil)
	}
	if l, e := m.Look(0); e != api.ErrNil || !reflect.DeepEqual(l, Letter{}) {
		t.Errorf("Look: %v, %d", l, e)
	}
	if m.Len() != 0 || m.Seen() != nil || m.Linked(0, 1) || m.Router(0) != nil || m.Honest(0) || m.Fibs() != nil || !reflect.DeepEqual(m.Config(), Config{}) {
		t.Error("no network tells something")
	}
	m = &Mesh{}
	for what, e := range map[string]api.Errno{
		"Tick": m.Tick(0), "Deliver": m.Deliver(0), "Lose": m.Lose(0), "Twice": m.Twice(0), "Inject": m.Inject(0, 1, nil), "Forge": m.Forge(0, 1, frame.Frame{}),
		"Crash": m.Crash(0, 0, 0), "Start": m.Start(0), "Fuse": m.Fuse(0, 0), "Link": m.Link(0, 1, true),
	} {
		is(t, what, e, api.ErrArg)
	}
	m.Look(0)
	m.Seen()
	m.Linked(0, 1)
	m.Fibs()
	m.Config()
}
