package mesh

import (
	"fingerpost/api"
	"fingerpost/count"
	"fingerpost/frame"
	"fingerpost/piece"
	"fingerpost/proof"
	"fingerpost/renew"
	"fingerpost/spring"
	"fingerpost/toll"
	"maps"
	"math/rand"
	"reflect"
	"slices"
	"testing"
)

// plague is a bad node, 2, that is heard and answered as any neighbour, and sends what must be refused besides.
type plague struct {
	*testing.T
	*Mesh
	r     *rand.Rand
	c     Config
	next  [api.MaxNodes]uint64 // the last number to each neighbour
	last  [api.MaxNodes][]byte // the last frame to each
	came  map[api.Errno]int
	which int
}

// sealed is a frame of the bad node's, under its next number.
func (p *plague) sealed(to, kind int, body []byte) []byte {
	p.next[to]++
	b, e := frame.Seal(Key(p.c, 2, to), frame.Frame{From: 2, To: to, Boot: 1, Count: p.next[to], Kind: kind, Body: body})
	is(p.T, "Seal", e, api.OK)
	return b
}

func (p *plague) spring(dest int, epoch uint32) *spring.Spring {
	s, _ := spring.New(p.c.Rules.Spring, Seed(p.c, dest), dest, epoch)
	return s
}

// record is the record of a destination's epoch, as that signs it.
func (p *plague) record(dest int, epoch uint32) renew.Signed {
	x, _ := renew.Issue(p.spring(dest, epoch), Seed(p.c, dest), dest, epoch)
	return x
}

// told is a record as a frame.
func (p *plague) told(to int, x renew.Signed) []byte {
	b, _ := frame.PutRenewal(x)
	return p.sealed(to, frame.IsRenewal, b)
}

// claims is a claim by the bad node as a frame, with what shows another one.
func (p *plague) claims(to, dest int, k api.Key, of api.Key, sender int) []byte {
	d, _ := proof.Issue(p.spring(dest, of.Epoch), proof.Claim{Dest: dest, Key: of, Sender: sender})
	b, _ := frame.PutUpdate(frame.Update{Entries: []frame.Entry{{Dest: dest, Key: k, Cred: d}}})
	return p.sealed(to, frame.IsUpdate, b)
}

// pest is a frame that a node refuses, and by what.
func (p *plague) pest(to int) ([]byte, []api.Errno) {
	r := p.r
	other := 1 - to
	k := api.Key{Epoch: 0, Seq: 1, Metric: 1}
	p.which++
	switch p.which % 16 {
	case 0:
		b := make([]byte, 38+r.Intn(40))
		r.Read(b)
		b[0] = 0
		return b, []api.Errno{api.ErrForm}
	case 1:
		return p.sealed(to, frame.IsHello, []byte{255, 0})[:37], []api.Errno{api.ErrShort}
	case 2: // a bit of the tag, or of the body
		b := p.sealed(to, frame.IsHello, []byte{255, 0})
		b[len(b)-1-r.Intn(18)] ^= byte(1 << r.Intn(8))
		return b, []api.Errno{api.ErrMac}
	case 3: // the name of an honest one
		b, _ := frame.Seal(Key(p.c, 2, to), frame.Frame{From: other, To: to, Boot: 9, Count: 9, Kind: frame.IsHello, Body: []byte{255, 0}})
		return b, []api.Errno{api.ErrMac}
	case 4: // of a number that is no neighbour
		b, _ := frame.Seal(Key(p.c, 2, to), frame.Frame{From: 6, To: to, Boot: 9, Count: 9, Kind: frame.IsHello, Body: []byte{255, 0}})
		return b, []api.Errno{api.ErrPeer}
	case 5:
		return p.last[to], []api.Errno{api.ErrReplay}
	case 6:
		b, _ := frame.Seal(Key(p.c, 2, to), frame.Frame{From: 2, To: to, Boot: 1, Count: 1, Kind: frame.IsHello, Body: []byte{0, 0}})
		return b, []api.Errno{api.ErrReplay}
	case 7: // a record that is known, or is of the node itself
		return p.told(to, p.record(r.Intn(2), 0)), []api.Errno{api.ErrOld}
	case 8: // one that the key didn't sign
		x := p.record(3, 0)
		x.Sig[r.Intn(len(x.Sig))][r.Intn(16)] ^= 1
		return p.told(to, x), []api.Errno{api.ErrSign}
	case 9: // one behind a gap
		return p.told(to, p.record(3, 1+uint32(r.Intn(3)))), []api.Errno{api.ErrState}
	case 10: // a rung that wasn't shown: by what shows a farther one
		return p.claims(to, other, api.Key{Seq: 3}, api.Key{Seq: 3, Metric: 2}, 2), []api.Errno{api.ErrProof, api.ErrOld}
	case 11: // what another one showed
		return p.claims(to, other, api.Key{Seq: 3, Metric: 1}, api.Key{Seq: 3, Metric: 1}, other), []api.Errno{api.ErrProof, api.ErrOld}
	case 12:
		return p.claims(to, 3, k, k, 2), []api.Errno{api.ErrNone}
	case 13:
		return p.claims(to, to, k, k, 2), []api.Errno{api.ErrOld}
	case 14: // a rung that there isn't
		k.Metric = p.c.Rules.Spring.Steps
		return p.claims(to, other, k, api.Key{}, 2), []api.Errno{api.ErrArg}
	}
	// A piece of a body that never is whole changes nothing but its sender's joiner.
	b, _ := piece.Put(piece.Piece{Id: uint32(p.which), At: 1, Many: 3, Part: []byte{1}})
	return p.sealed(to, frame.IsPiece, b), []api.Errno{api.OK}
}

// pester lets an honest node be sent what it refuses: it tells what it told, and counts it.
func (p *plague) pester(to int) {
	p.Helper()
	b, want := p.pest(to)
	is(p.T, "Inject", p.Inject(2, to, b), api.OK)
	r := p.Router(to)
	was, counted := telled(r), r.Counters()
	e := p.Deliver(p.Len() - 1)
	if !slices.Contains(want, e) {
		p.Fatalf("the pest %d: %d, not %d", p.which%16, e, want)
	}
	p.came[e]++
	if now := telled(r); !reflect.DeepEqual(was, now) {
		p.Fatalf("refused by %d: %v, not %v", e, now, was)
	}
	turned := count.Diff(counted, r.Counters())
	if turned[count.Frames] != 1 || e != api.OK && turned[count.Of(e)] != 1 {
		p.Fatalf("refused by %d: counted %v", e, turned)
	}
	maps.DeleteFunc(turned, func(which int, n int64) bool {
		return slices.Contains([]int{count.Frames, count.Of(e), count.Updates, count.Entries, count.Renewals, count.Pieces}, which)
	})
	if len(turned) > 0 {
		p.Fatalf("refused by %d: counted %v beside", e, turned)
	}
}

// well lets the bad node say hello, under the numbers of its time, ahead of all that it sends else.
func (p *plague) well(to int, now int) {
	p.Helper()
	p.next[to] = uint64(now * 1000)
	b := p.sealed(to, frame.IsHello, frame.PutHello(frame.Hello{Heard: 255}))
	is(p.T, "Inject", p.Inject(2, to, b), api.OK)
	is(p.T, "Deliver", p.Deliver(p.Len()-1), api.OK)
	p.last[to] = b
}

// W4: what is refused changes nothing of all that nodes send, now and later on, and tell.
func TestPlague(t *testing.T) {
	c := row(4, 2)
	c.Rules.Spring.Height, c.Rules.Rotate, c.Rules.Spring.Width = 3, 9, 8
	c.Links = [][2]int{{0, 1}, {1, 2}, {2, 0}}
	for seed := range int64(4) {
		came := map[api.Errno]int{}
		plain := &plague{T: t, Mesh: made(t, c), c: c}
		plagued := &plague{T: t, Mesh: made(t, c), r: rand.New(rand.NewSource(seed)), c: c, came: came}
		for now := 1; now <= 40; now++ {
			for _, p := range []*plague{plain, plagued} {
				for to := range 2 {
					p.well(to, now)
					is(t, "Tick", p.Tick(to), api.OK)
				}
			}
			if !slices.EqualFunc(plain.flight, plagued.flight, alike) {
				t.Fatalf("at %d: %d frames are on their way, not %d, or others", now, plagued.Len(), plain.Len())
			}
			for plain.Len() > 0 {
				if e, f := plain.Deliver(0), plagued.Deliver(0); e != f {
					t.Fatalf("at %d: %d, not %d", now, f, e)
				}
				// Behind some ticks each knows of the other one, and hears the bad one.
				for range plagued.r.Intn(3) {
					if now > 8 {
						plagued.pester(plagued.r.Intn(2))
					}
				}
			}
			for id := range 2 {
				if a, b := telled(plain.Router(id)), telled(plagued.Router(id)); !reflect.DeepEqual(a, b) {
					t.Fatalf("at %d: %d tells %v, not %v", now, id, b, a)
				}
			}
		}
		for _, e := range []api.Errno{api.OK, api.ErrForm, api.ErrShort, api.ErrMac, api.ErrPeer, api.ErrReplay, api.ErrOld, api.ErrSign, api.ErrProof, api.ErrState, api.ErrNone, api.ErrArg} {
			if came[e] < 3 {
				t.Errorf("seed %d: refused by %d: %d times", seed, e, came[e])
			}
		}
		if l := plain.Router(0).Fib(); len(l) != 1 || l[0].Dest != 1 {
			t.Errorf("seed %d: %v", seed, l)
		}
	}
}

// W4: what a bad node can't pay is refused; it costs no other one's toll.
func TestTolls(t *testing.T) {
	c := row(3, 1)
	c.Links = [][2]int{{0, 1}, {0, 2}}
	c.Rules.Peer.Rates = toll.Rates{Frames: 12, FramesTick: 6, Blocks: 3000, BlocksTick: 1500}
	m := made(t, c)
	sent := uint64(0)
	for range 40 {
		refused := 0
		for range 30 {
			sent++
			is(t, "Forge", m.Forge(1, 0, hello(sent)), api.OK)
			was := telled(m.Router(0))
			switch e := m.Deliver(m.Len() - 1); {
			case e == api.ErrToll:
				refused++
				if now := telled(m.Router(0)); !reflect.DeepEqual(was, now) {
					t.Fatalf("unpaid: %v, not %v", now, was)
				}
			default:
				is(t, "Deliver", e, api.OK)
			}
		}
		if refused < 18 {
			t.Fatalf("%d of 30 frames were refused", refused)
		}
		is(t, "Tick", m.Tick(0), api.OK)
		is(t, "Tick", m.Tick(2), api.OK)
		for m.Len() > 0 {
			if e := m.Deliver(0); e == api.ErrToll {
				t.Fatal("another one can't pay")
			}
		}
	}
	if l := m.Router(0).Counters(); l[count.Tolls] < 40*18 || l[count.Tolls]+l[count.Hellos] < 1200 {
		t.Errorf("counted: %v", l)
	}
	if l := m.Router(0).Fib(); len(l) != 1 || l[0].Next != 2 {
		t.Errorf("the other one's routes: %v", l)
	}
}
