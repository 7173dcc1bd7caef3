package mesh

import (
	"fingerpost/api"
	"fingerpost/count"
	"fingerpost/frame"
	"math"
	"reflect"
	"slices"
	"strings"
	"testing"
)

// noPlaces are places at which no frame is, of so many.
func noPlaces(many int) []int {
	return []int{-1, many, many + 1, 4096, math.MaxInt, math.MinInt}
}

// P27.2: frames are on their way in the order in which they set out; each of the four is taken by its place.
func TestPlaces(t *testing.T) {
	m := made(t, row(3, 1))
	flies(t, "at first", m)
	injects(t, m, 1, 0, "a", "b")
	injects(t, m, 1, 2, "c")
	injects(t, m, 1, 0, "")
	a, b, c, d := junk(1, 0, "a"), junk(1, 0, "b"), junk(1, 2, "c"), junk(1, 0, "")
	flies(t, "set out", m, a, b, c, d)
	is(t, "Twice", m.Twice(1), api.OK)
	flies(t, "twice", m, a, b, c, d, b)
	is(t, "Twice of the last one", m.Twice(4), api.OK)
	is(t, "Twice of the first one", m.Twice(0), api.OK)
	flies(t, "twice", m, a, b, c, d, b, b, a)
	is(t, "Lose", m.Lose(2), api.OK)
	flies(t, "lost", m, a, b, d, b, b, a)
	is(t, "Lose of the last one", m.Lose(5), api.OK)
	is(t, "Lose of the first one", m.Lose(0), api.OK)
	flies(t, "lost", m, b, d, b, b)
	is(t, "Deliver", m.Deliver(1), api.ErrShort)
	flies(t, "delivered", m, b, b, b)
	is(t, "Deliver", m.Deliver(2), api.ErrForm)
	flies(t, "delivered", m, b, b)
	injects(t, m, 1, 2, "e")
	flies(t, "set out", m, b, b, junk(1, 2, "e"))
	saw(t, "to honest ones", m)
}

// Errors: of no frame, nothing is done.
func TestNoPlaces(t *testing.T) {
	m := made(t, row(3, 1))
	for _, texts := range [][]string{nil, {"a"}, {"b", "c"}} {
		injects(t, m, 1, 0, texts...)
		for _, at := range noPlaces(m.Len()) {
			is(t, "Deliver", m.Deliver(at), api.ErrArg)
			is(t, "Lose", m.Lose(at), api.ErrArg)
			is(t, "Twice", m.Twice(at), api.ErrArg)
			if l, e := m.Look(at); e != api.ErrArg || !reflect.DeepEqual(l, Letter{}) {
				t.Errorf("Look(%d): %v, %d", at, l, e)
			}
		}
	}
	flies(t, "all", m, junk(1, 0, "a"), junk(1, 0, "b"), junk(1, 0, "c"))
}

// P27.2: what arrives at a bad node is seen, in order, whoever sent it.
func TestSeen(t *testing.T) {
	m := made(t, row(4, 1, 2))
	injects(t, m, 1, 2, "a", "b")
	injects(t, m, 2, 1, "c")
	is(t, "Tick", m.Tick(3), api.OK)
	tick, _ := m.Look(3)
	saw(t, "on their way", m)
	is(t, "Deliver", m.Deliver(1), api.OK)
	is(t, "Deliver", m.Deliver(2), api.OK)
	is(t, "Deliver", m.Deliver(0), api.OK)
	is(t, "Twice", m.Twice(0), api.OK)
	is(t, "Deliver", m.Deliver(1), api.OK)
	is(t, "Lose", m.Lose(0), api.OK)
	saw(t, "delivered", m, junk(1, 2, "b"), tick, junk(1, 2, "a"), junk(2, 1, "c"))
	if tick.From != 3 || tick.To != 2 {
		t.Errorf("the tick's frame is %v", tick)
	}
	flies(t, "none is left", m)
}

// P27.2: a frame that can't arrive is on its way no longer: its link is gone, or its node doesn't run.
func TestDeliverRefuses(t *testing.T) {
	m := made(t, row(3, 1))
	injects(t, m, 1, 0, "a", "b", "c", "d")
	injects(t, m, 1, 2, "e")
	is(t, "Link", m.Link(1, 0, false), api.OK)
	was := telled(m.Router(0))
	is(t, "no link", m.Deliver(0), api.ErrPeer)
	is(t, "Crash", m.Crash(0, 0, 0), api.OK)
	is(t, "no link, and it doesn't run", m.Deliver(0), api.ErrPeer)
	is(t, "Link", m.Link(0, 1, true), api.OK)
	is(t, "it doesn't run", m.Deliver(0), api.ErrState)
	flies(t, "refused", m, junk(1, 0, "d"), junk(1, 2, "e"))
	is(t, "Start", m.Start(0), api.OK)
	if l := m.Router(0).Counters(); l[count.Frames] != 0 {
		t.Errorf("counted: %v", l)
	}
	is(t, "the router's", m.Deliver(0), api.ErrForm)
	if l := m.Router(0).Counters(); l[count.Frames] != 1 || l[count.Form] != 1 {
		t.Errorf("counted: %v", l)
	}
	flies(t, "refused", m, junk(1, 2, "e"))
	was.Boot = 2
	if now := telled(m.Router(0)); !reflect.DeepEqual(was, now) {
		t.Errorf("%v, not %v", now, was)
	}
}

// P27.2: a bad node sees nothing by a link that is gone.
func TestUnseen(t *testing.T) {
	m := made(t, row(2, 1))
	is(t, "Tick", m.Tick(0), api.OK)
	m.Link(0, 1, false)
	is(t, "Deliver", m.Deliver(0), api.ErrPeer)
	saw(t, "without a link", m)
	flies(t, "without a link", m)
}

// P27.2: a dead router answers that by which it is dead.
func TestDeliverToDead(t *testing.T) {
	m := made(t, row(2, 1))
	is(t, "Fuse", m.Fuse(0, 1), api.OK)
	is(t, "Tick", m.Tick(0), api.ErrDown)
	injects(t, m, 1, 0, "a")
	is(t, "Deliver", m.Deliver(0), api.ErrDown)
	flies(t, "dead", m)
}

// P27.3
func TestInject(t *testing.T) {
	m := made(t, row(3, 1))
	for _, text := range []string{"", "a", strings.Repeat("b", api.MaxBody)} {
		injects(t, m, 1, 2, text)
		last, _ := m.Look(m.Len() - 1)
		if !alike(last, junk(1, 2, text)) {
			t.Errorf("%d bytes set out as %v", len(text), last)
		}
	}
	is(t, "one byte too many", m.Inject(1, 2, make([]byte, api.MaxBody+1)), api.ErrArg)
	is(t, "of an honest one", m.Inject(0, 1, nil), api.ErrArg)
	is(t, "of an honest one, not linked", m.Inject(0, 2, nil), api.ErrArg)
	is(t, "to itself", m.Inject(1, 1, nil), api.ErrPeer)
	for _, id := range append([]int{3}, noIds...) {
		is(t, "from nobody", m.Inject(id, 0, nil), api.ErrArg)
		is(t, "to nobody", m.Inject(1, id, nil), api.ErrArg)
	}
	m.Link(1, 2, false)
	is(t, "not linked", m.Inject(1, 2, nil), api.ErrPeer)
	is(t, "not linked, too many bytes", m.Inject(1, 2, make([]byte, api.MaxBody+1)), api.ErrArg)
	if m.Len() != 3 {
		t.Errorf("%d are on their way", m.Len())
	}
}

// P27.3: a forged frame is of whoever forges it, to whom it goes to, sealed by the key of the two.
func TestForge(t *testing.T) {
	m := made(t, row(4, 1, 2))
	for _, x := range []frame.Frame{hello(1), {From: 0, To: 3, Boot: 9, Count: 1 << 63, Kind: frame.IsPiece, Body: []byte{1, 2}}, {From: 99, To: -1, Boot: 1, Count: 1, Kind: frame.IsUpdate, Body: make([]byte, api.MaxBlob)}} {
		given := x
		is(t, "Forge", m.Forge(2, 3, x), api.OK)
		if !reflect.DeepEqual(given, x) {
			t.Error("Forge turned its frame")
		}
		l, _ := m.Look(m.Len() - 1)
		x.From, x.To = 2, 3
		want, _ := frame.Seal(Key(m.Config(), 2, 3), x)
		if !alike(l, Letter{2, 3, want}) {
			t.Errorf("%v sets out as %v", x, l)
		}
	}
	is(t, "it is taken", m.Deliver(0), api.OK)
	if l := m.Router(3).Live(); !slices.Equal(l, []int{2}) {
		t.Errorf("live: %v", l)
	}
	is(t, "to a bad one", m.Forge(2, 1, hello(1)), api.OK)
}

// Errors
func TestForgeRefuses(t *testing.T) {
	m := made(t, row(3, 1))
	for what, x := range map[string]frame.Frame{
		"nothing":  {},
		"no boot":  {Count: 1, Kind: 1},
		"no count": {Boot: 1, Kind: 1},
		"no kind":  {Boot: 1, Count: 1},
		"kind 5":   {Boot: 1, Count: 1, Kind: 5},
		"too long": {Boot: 1, Count: 1, Kind: 1, Body: make([]byte, api.MaxBlob+1)},
	} {
		is(t, what, m.Forge(1, 0, x), api.ErrArg)
	}
	is(t, "of an honest one", m.Forge(0, 1, hello(1)), api.ErrArg)
	is(t, "to itself", m.Forge(1, 1, hello(1)), api.ErrArg)
	for _, id := range append([]int{3}, noIds...) {
		is(t, "from nobody", m.Forge(id, 0, hello(1)), api.ErrArg)
		is(t, "to nobody", m.Forge(1, id, hello(1)), api.ErrArg)
	}
	m.Link(1, 0, false)
	is(t, "not linked", m.Forge(1, 0, hello(1)), api.ErrPeer)
	is(t, "not linked, no frame", m.Forge(1, 0, frame.Frame{}), api.ErrArg)
	flies(t, "refused", m)
}

// P27.2, P27.3: 2048 frames are on their way at most.
func TestFull(t *testing.T) {
	m := made(t, row(3, 1))
	for range 2047 {
		injects(t, m, 1, 0, "a")
	}
	is(t, "the last one", m.Twice(7), api.OK)
	is(t, "Twice", m.Twice(0), api.ErrFull)
	is(t, "Twice of no frame", m.Twice(2048), api.ErrArg)
	is(t, "Inject", m.Inject(1, 2, nil), api.ErrFull)
	is(t, "Inject without a link", m.Inject(1, 1, nil), api.ErrPeer)
	is(t, "Inject of too much", m.Inject(1, 2, make([]byte, api.MaxBody+1)), api.ErrArg)
	is(t, "Forge", m.Forge(1, 2, hello(1)), api.ErrFull)
	is(t, "Forge of no frame", m.Forge(1, 2, frame.Frame{}), api.ErrArg)
	is(t, "Tick", m.Tick(0), api.OK)
	if m.Len() != 2048 {
		t.Errorf("%d are on their way", m.Len())
	}
	is(t, "Lose", m.Lose(2047), api.OK)
	is(t, "Tick", m.Tick(2), api.OK)
	if l, _ := m.Look(2047); m.Len() != 2048 || l.From != 2 {
		t.Errorf("%d are on their way, at last %v", m.Len(), l)
	}
	is(t, "Lose", m.Lose(0), api.OK)
	is(t, "Forge", m.Forge(1, 2, hello(1)), api.OK)
	// A hello to each of the other two, also to the one to which there is no link.
	if l := m.Router(0).Counters(); l[count.Sent] != 2 {
		t.Errorf("sent: %d", l[count.Sent])
	}
}

// P27.2: of what a tick lets set out as much does as there is room for, in order.
func TestRoomForSome(t *testing.T) {
	c := row(3, 1)
	c.Links = append(c.Links, [2]int{0, 2})
	twin, m := made(t, c), made(t, c)
	// As soon as 1 is live, more than a hello goes to it.
	for _, x := range []*Mesh{twin, m} {
		is(t, "Forge", x.Forge(1, 0, hello(1)), api.OK)
		is(t, "Deliver", x.Deliver(0), api.OK)
	}
	is(t, "Tick", twin.Tick(0), api.OK)
	if twin.Len() < 4 {
		t.Fatalf("%d set out", twin.Len())
	}
	for range 2045 {
		injects(t, m, 1, 0, "a")
	}
	is(t, "Tick", m.Tick(0), api.OK)
	if m.Len() != 2048 {
		t.Fatalf("%d are on their way", m.Len())
	}
	for at := range 3 {
		got, _ := m.Look(2045 + at)
		if want, _ := twin.Look(at); !alike(got, want) {
			t.Errorf("the %d-th: %v, not %v", at, got, want)
		}
	}
}

// R3: neither what is handed in nor what is handed out is the network's own.
func TestLettersAreCopies(t *testing.T) {
	m := made(t, row(3, 1))
	text := []byte("abc!")
	is(t, "Inject", m.Inject(1, 0, text[:3]), api.OK)
	is(t, "Twice", m.Twice(0), api.OK)
	body := []byte{1, 2, 3}
	is(t, "Forge", m.Forge(1, 0, frame.Frame{Boot: 1, Count: 1, Kind: 1, Body: body}), api.OK)
	forged, _ := m.Look(2)
	forged.Bytes = slices.Clone(forged.Bytes)
	clear(text)
	clear(body)
	for range 2 {
		for at := range 3 {
			l, _ := m.Look(at)
			clear(l.Bytes[:cap(l.Bytes)])
		}
	}
	flies(t, "cleared", m, junk(1, 0, "abc"), junk(1, 0, "abc"), forged)
	is(t, "Tick", m.Tick(0), api.OK)
	tick, _ := m.Look(3)
	is(t, "Twice", m.Twice(3), api.OK)
	is(t, "Deliver", m.Deliver(3), api.OK)
	is(t, "Deliver", m.Deliver(3), api.OK)
	for range 2 {
		l := m.Seen()
		if len(l) != 2 || !alike(l[0], tick) || !alike(l[1], tick) {
			t.Fatalf("Seen: %v, not %v twice", l, tick)
		}
		clear(l[0].Bytes)
		if !alike(l[1], tick) {
			t.Fatal("two letters share memory")
		}
		clear(l)
	}
}
