package router

import (
	"fingerpost/api"
	"fingerpost/count"
	"fingerpost/frame"
	"fingerpost/piece"
	"fingerpost/renew"
	"fingerpost/toll"
	"slices"
	"testing"
)

// P25.2: what the peers refuse is counted by its error.
func TestFramesRefused(t *testing.T) {
	r := wide()
	r.Peer.Rates = toll.Rates{Frames: 8, Blocks: 1000}
	s := play(t, r, 1, 2)
	s.raw("nothing", nil, api.ErrShort, count.Form)
	s.raw("a byte", []byte{1}, api.ErrShort, count.Form)
	s.raw("another one", []byte{2, 0, 1}, api.ErrForm, count.Form)
	b := s.frame(helloOf(1, 1))
	s.raw("cut", b[:len(b)-1], api.ErrShort, count.Form)
	s.raw("too long", append(slices.Clone(b), 0), api.ErrForm, count.Form)
	s.raw("a stranger", s.frame(helloOf(3, 1)), api.ErrPeer, count.Strangers)
	f, _ := frame.Seal(keyOf(1, 2), frame.Frame{From: 1, To: 2, Boot: 1, Count: 9, Kind: frame.IsHello})
	s.raw("another one's", f, api.ErrPeer, count.Strangers)
	turned := slices.Clone(b)
	turned[len(turned)-1] ^= 1
	s.raw("turned", turned, api.ErrMac, count.Tags)
	s.raw("right", b, api.OK, count.Hellos)
	s.raw("again", b, api.ErrReplay, count.Replays)
	s.boots[1] = 2
	s.take("another boot", helloOf(1, 1), api.OK, count.Hellos)
	s.boots[1] = 1
	s.take("an elder boot", helloOf(1, 1), api.ErrReplay, count.Replays)
	for range 3 {
		s.take("paid", helloOf(1, 1), api.ErrReplay, count.Replays)
	}
	s.take("unpaid", helloOf(1, 1), api.ErrToll, count.Tolls)
	s.take("by another one", helloOf(2, 1), api.OK, count.Hellos)
}

// P25.2: hellos, and those that are none.
func TestHello(t *testing.T) {
	s := play(t, wide(), 1, 2)
	s.ticks(1)
	for what, x := range map[string]struct {
		text []byte
		want api.Errno
	}{
		"none":       {nil, api.ErrShort},
		"a byte":     {[]byte{1}, api.ErrShort},
		"too many":   {append([]byte{1, 9}, make([]byte, 36)...), api.ErrLimit},
		"too few":    {[]byte{1, 1, 0, 0, 0}, api.ErrShort},
		"a byte too": {[]byte{1, 0, 0}, api.ErrForm},
	} {
		s.take(what, body{1, frame.IsHello, x.text}, x.want, count.Form)
		if l := s.r.Live(); len(l) != 0 {
			t.Errorf("%s: live are %v", what, l)
		}
	}
	s.take("doesn't hear", helloOf(1, 0xfe), api.OK, count.Hellos)
	if l := s.r.Live(); len(l) != 0 {
		t.Errorf("live are %v", l)
	}
	s.take("hears", helloOf(1, 1), api.OK, count.Hellos)
	s.take("hears all", helloOf(2, 0xff, 1, 2, 3, 4, 5, 6, 7, 8), api.OK, count.Hellos)
	if l := s.r.Live(); !slices.Equal(l, []int{1, 2}) {
		t.Errorf("live are %v", l)
	}
	s.take("hears no more", helloOf(1, 0), api.OK, count.Hellos)
	if l := s.r.Live(); !slices.Equal(l, []int{2}) {
		t.Errorf("live are %v", l)
	}
}

// P25.2: a hello of whom doesn't hear any more breaks the routes by it, no others; the other way is urgent.
func TestHelloBreaks(t *testing.T) {
	r := wide()
	r.Settle.Settle = 100
	s := play(t, r, 1, 2)
	s.meet(1, 2)
	s.know(1, 1, 1, 2, 3)
	s.offer(2, 3, key(0, 0, 1))
	s.ticks(1)
	s.offer(1, 1, key(0, 0, 0))
	s.offer(2, 2, key(0, 0, 0))
	s.offer(1, 3, key(0, 0, 0))
	s.take("hears", helloOf(1, 1), api.OK, count.Hellos)
	s.route("hears", 3, 1, key(0, 0, 1))
	s.take("hears no more", helloOf(1, 2), api.OK, count.Hellos)
	s.lost("broken", 1)
	s.route("broken", 3, 2, key(0, 0, 2))
	s.route("broken", 2, 2, key(0, 0, 1))
	s.take("hears no more", helloOf(1, 2), api.OK, count.Hellos)
	s.route("broken", 2, 2, key(0, 0, 1))
	s.tick("broken", helloOf(1, 6, 1, 1, 1, 1), helloOf(2, 6, 1, 1, 1, 1),
		updateOf(2, false, s.passed(2, key(0, 0, 1)), s.passed(3, key(0, 0, 2))))
	s.meet(1)
	s.take("held down", s.claims(1, 1, key(0, 0, 0)), api.ErrHold, count.Updates, count.Entries, count.Held)
	s.ticks(2)
	s.take("held down", s.claims(1, 1, key(0, 0, 0)), api.ErrHold, count.Updates, count.Entries, count.Held)
	s.meet(1)
	s.ticks(1)
	s.offer(1, 1, key(0, 0, 0))
}

// P25.2: a body in pieces is done as soon as all are there, by its kind, in whatever order they come.
func TestPieces(t *testing.T) {
	s := play(t, wide(), 1, 2)
	l := cut(helloOf(1, 1, 1, 2, 3, 4), 5, 16)
	if len(l) != 3 {
		t.Fatalf("%d pieces", len(l))
	}
	s.take("last", l[2], api.OK, count.Pieces)
	s.take("first", l[0], api.OK, count.Pieces)
	s.take("first again", l[0], api.OK, count.Pieces)
	if len(s.r.Live()) != 0 {
		t.Error("live by a part")
	}
	// Each neighbour's pieces are its own.
	other := l[1]
	other.id = 2
	s.take("another one's", other, api.OK, count.Pieces)
	s.take("middle", l[1], api.OK, count.Pieces, count.Hellos)
	if l := s.r.Live(); !slices.Equal(l, []int{1}) {
		t.Errorf("live are %v", l)
	}
	s.take("over", l[1], api.ErrOld, count.Pieces, count.Stale)
	for _, x := range cut(renewalOf(1, recordOf(wide(), 3, 0)), 6, 700)[:1] {
		s.take("a part", x, api.OK, count.Pieces)
	}
	for at, x := range cut(renewalOf(1, recordOf(wide(), 3, 0)), 7, 600) {
		s.take("a record's", x, api.OK, [][]int{{count.Pieces}, {count.Pieces, count.Renewals}}[at]...)
	}
	s.take("elder", cut(helloOf(1, 1), 6, 64)[0], api.ErrOld, count.Pieces, count.Stale)
	if s.r.Roots(3) != 1 {
		t.Error("the record isn't known")
	}
	for at, x := range cut(s.claims(1, 3, key(0, 0, 1)), 8, 64) {
		s.take("a claim's", x, api.OK, [][]int{{count.Pieces}, {count.Pieces, count.Updates, count.Entries, count.Taken}}[at]...)
	}
	s.route("by pieces", 3, 1, key(0, 0, 2))
}

// P25.2: what is no piece, and pieces of what is nothing.
func TestPiecesRefused(t *testing.T) {
	s := play(t, wide(), 1)
	put := func(id uint32, at, many int, text ...byte) body {
		b, e := piece.Put(piece.Piece{Id: id, At: at, Many: many, Part: text})
		is(t, "piece.Put", e, api.OK)
		return body{1, frame.IsPiece, b}
	}
	s.take("nothing", body{1, frame.IsPiece, nil}, api.ErrShort, count.Form)
	s.take("no piece", body{1, frame.IsPiece, []byte{0, 0, 0, 9, 1, 1, 0, 0}}, api.ErrForm, count.Form)
	s.take("a byte too", body{1, frame.IsPiece, []byte{0, 0, 0, 9, 0, 1, 0, 0, 0}}, api.ErrForm, count.Form)
	s.take("no bytes", put(1, 0, 1), api.ErrShort, count.Pieces, count.Form)
	s.take("no kind", put(2, 0, 1, 0), api.ErrForm, count.Pieces, count.Form)
	s.take("a piece's", put(3, 0, 1, frame.IsPiece, 0, 0, 0, 9, 0, 1, 0, 0), api.ErrForm, count.Pieces, count.Form)
	s.take("no hello", put(4, 0, 1, frame.IsHello, 1), api.ErrShort, count.Pieces, count.Form)
	s.take("no update", put(5, 0, 1, frame.IsUpdate, 2, 0), api.ErrForm, count.Pieces, count.Form)
	s.take("not live", put(6, 0, 1, frame.IsUpdate, 1, 0), api.ErrState, count.Pieces, count.Updates, count.Stale)
	s.take("a part", put(7, 0, 3, 1), api.OK, count.Pieces)
	s.take("another number of parts", put(7, 1, 2, 1), api.ErrForm, count.Pieces, count.Form)
	s.take("another part", put(7, 0, 3, 2), api.ErrTwice, count.Pieces, count.Form)
	s.take("an elder one", put(6, 0, 1, 1), api.ErrOld, count.Pieces, count.Stale)
	for at := range 5 {
		b := put(9, at, 5, make([]byte, 4080)...)
		want, counted := api.OK, []int{count.Pieces}
		if at == 4 {
			want, counted = api.ErrLimit, []int{count.Pieces, count.Form}
		}
		s.take("too long in all", b, want, counted...)
	}
}

// P25.2: in another boot the numbers of bodies begin anew.
func TestPiecesOfAnotherBoot(t *testing.T) {
	s := play(t, wide(), 1)
	l := cut(helloOf(1, 1, 1, 2, 3, 4), 5, 16)
	s.take("first", l[0], api.OK, count.Pieces)
	s.take("second", l[1], api.OK, count.Pieces)
	s.boots[1], s.counts[1] = 2, 0
	l = cut(helloOf(1, 1, 1, 2, 3, 4), 1, 16)
	s.take("third", l[2], api.OK, count.Pieces)
	s.take("second", l[1], api.OK, count.Pieces)
	s.take("first", l[0], api.OK, count.Pieces, count.Hellos)
	s.boots[1], s.counts[1] = 7, 20
	// A frame that is refused begins that boot, too, but no frame that isn't admitted.
	s.take("no hello", body{1, frame.IsHello, nil}, api.ErrShort, count.Form)
	for at, x := range cut(helloOf(1, 1, 1, 2, 3, 4), 1, 16) {
		s.take("anew", x, api.OK, [][]int{{count.Pieces}, {count.Pieces}, {count.Pieces, count.Hellos}}[at]...)
	}
	turned := s.frame(l[0])
	turned[10]++
	s.raw("turned", turned, api.ErrMac, count.Tags)
	s.take("the same boot", l[0], api.ErrOld, count.Pieces, count.Stale)
}

// P25.2: records are taken in their order, each once; whose signature isn't right isn't taken.
func TestRenewal(t *testing.T) {
	r := long()
	s := play(t, r, 1, 2)
	x := func(dest int, epoch uint32) body { return renewalOf(1, recordOf(r, dest, epoch)) }
	s.take("ahead", x(3, 1), api.ErrState, count.Renewals, count.Stale)
	s.take("first", x(3, 0), api.OK, count.Renewals)
	s.take("again", x(3, 0), api.ErrOld, count.Renewals, count.Stale)
	s.take("next", x(3, 1), api.OK, count.Renewals)
	s.take("of itself", x(0, 0), api.ErrOld, count.Stale)
	s.take("of no node", renewalOf(1, renew.Signed{Record: renew.Record{Dest: 4}}), api.ErrOld, count.Stale)
	s.take("of no node", renewalOf(1, renew.Signed{Record: renew.Record{Dest: 7, Epoch: 9}}), api.ErrOld, count.Stale)
	s.take("of the sender", x(1, 0), api.OK, count.Renewals)
	bad := recordOf(r, 2, 0)
	bad.Record.Root[3] ^= 1
	s.take("another root", renewalOf(1, bad), api.ErrSign, count.Renewals, count.Signs)
	bad = recordOf(r, 2, 0)
	bad.Sig[67][0] ^= 1
	s.take("another signature", renewalOf(1, bad), api.ErrSign, count.Renewals, count.Signs)
	s.take("no record", body{1, frame.IsRenewal, nil}, api.ErrShort, count.Form)
	s.take("a byte too", body{1, frame.IsRenewal, append(x(2, 0).text, 0)}, api.ErrForm, count.Form)
	s.take("of no node at all", body{1, frame.IsRenewal, append([]byte{8}, x(2, 0).text[1:]...)}, api.ErrForm, count.Form)
	for dest, want := range []int{0, 1, 0, 2, 0, 0, 0, 0} {
		if n := s.r.Roots(dest); n != want {
			t.Errorf("Roots(%d): %d, not %d", dest, n, want)
		}
	}
	s.take("right", x(2, 0), api.OK, count.Renewals)
	// What was taken is kept: it is there behind a crash.
	s.again()
	for dest, want := range []int{0, 1, 1, 2, 0, 0, 0, 0} {
		if n := s.r.Roots(dest); n != want {
			t.Errorf("again: Roots(%d): %d, not %d", dest, n, want)
		}
	}
}

// P25.2, P25.4: a record that isn't taken isn't flooded.
func TestRenewalRefusedIsNotFlooded(t *testing.T) {
	s := play(t, long(), 1)
	s.ticks(1)
	s.meet(1)
	s.ticks(1)
	bad := recordOf(long(), 2, 0)
	bad.Sig[0][0] ^= 1
	s.take("bad", renewalOf(1, bad), api.ErrSign, count.Renewals, count.Signs)
	s.take("ahead", renewalOf(1, recordOf(long(), 2, 1)), api.ErrState, count.Renewals, count.Stale)
	s.tick("none", helloOf(1, 2, 1, 0, 0, 0))
}

// P25.2, P25.4: a record is paid by its sender: what it costs, and it must have what any one may cost.
func TestRenewalTolls(t *testing.T) {
	r := long()
	x := recordOf(r, 3, 0)
	bad := recordOf(r, 2, 0)
	bad.Sig[0][0] ^= 1
	tag, cost := frame.Cost(1125), renew.Cost(x.Record)
	r.Peer.Rates = poor(3*tag + cost + renew.Worst)
	s := play(t, r, 1, 2)
	s.spent("nothing", 1, 0)
	s.take("ahead", renewalOf(1, recordOf(r, 3, 1)), api.ErrState, count.Renewals, count.Stale)
	s.spent("ahead", 1, tag)
	s.take("taken", renewalOf(1, x), api.OK, count.Renewals)
	s.spent("taken", 1, 2*tag+cost)
	s.take("just enough", renewalOf(1, bad), api.ErrSign, count.Renewals, count.Signs)
	s.spent("just enough", 1, 3*tag+cost+renew.Cost(bad.Record))
	s.take("by another one", renewalOf(2, recordOf(r, 2, 0)), api.OK, count.Renewals)
	r.Peer.Rates.Blocks--
	s = play(t, r, 1)
	s.take("ahead", renewalOf(1, recordOf(r, 3, 1)), api.ErrState, count.Renewals, count.Stale)
	s.take("taken", renewalOf(1, x), api.OK, count.Renewals)
	s.take("a block too few", renewalOf(1, recordOf(r, 2, 0)), api.ErrToll, count.Renewals, count.Tolls)
	s.spent("a block too few", 1, 3*tag+cost)
	if s.r.Roots(2) != 0 {
		t.Error("what can't be paid is taken")
	}
}

// P25.2: without links nobody is heard.
func TestTakeWithoutLinks(t *testing.T) {
	s := play(t, wide())
	s.raw("a stranger", s.frame(helloOf(1, 1)), api.ErrPeer, count.Strangers)
	if l := s.r.Live(); len(l) != 0 {
		t.Errorf("live are %v", l)
	}
}
