package router

import (
	"fingerpost/api"
	"fingerpost/frame"
	"fingerpost/piece"
	"fingerpost/renew"
	"fingerpost/toll"
	"math/rand"
	"reflect"
	"slices"
	"testing"
)

// stale is a body that is refused, of a neighbour that is live, by what it knows.
func stale(rules Rules, r *rand.Rand, id int) body {
	junk := make([]byte, r.Intn(40))
	r.Read(junk)
	bad := recordOf(rules, 2, 1)
	bad.Sig[r.Intn(68)][r.Intn(16)] ^= byte(1 + r.Intn(255))
	claim := claimOf(rules, 3, key(0, 1, r.Intn(5)), id)
	claim.Cred.Leaf[r.Intn(16)] ^= byte(1 + r.Intn(255))
	half, _ := piece.Put(piece.Piece{Id: r.Uint32(), At: r.Intn(2), Many: 4 + r.Intn(20), Part: junk})
	l := []body{
		{id, frame.IsHello, append([]byte{0, 9}, junk...)},
		{id, frame.IsUpdate, append([]byte{2}, junk...)},
		{id, frame.IsRenewal, junk},
		{id, frame.IsPiece, junk},
		{id, frame.IsPiece, half},
		updateOf(id, true, claimOf(rules, 0, key(0, 0, r.Intn(5)), id)),
		updateOf(id, true, claimOf(rules, 3, key(5, 0, r.Intn(5)), id)),
		updateOf(id, true, claim),
		updateOf(id, true, frame.Entry{Dest: 7, Key: key(0, 0, 0)}),
		renewalOf(id, bad),
		renewalOf(id, renew.Signed{Record: renew.Record{Dest: 3, Epoch: r.Uint32() | 1}}),
		renewalOf(id, recordOf(rules, 0, uint32(r.Intn(3)))),
		renewalOf(id, recordOf(rules, 1, 0)),
	}
	return l[r.Intn(len(l))]
}

// strange is a frame that isn't admitted.
func (s *stage) strange(r *rand.Rand, seen [][]byte) []byte {
	b := make([]byte, r.Intn(80))
	r.Read(b)
	switch r.Intn(4) {
	case 0:
		f, _ := frame.Seal(keyOf(0, 3), frame.Frame{From: 3, To: 0, Boot: 1 + r.Uint64()>>1, Count: 1 + r.Uint64()>>1, Kind: frame.IsHello, Body: []byte{1, 0}})
		return f
	case 1:
		return b
	case 2:
		if len(seen) > 0 {
			return seen[r.Intn(len(seen))]
		}
	case 3:
		if len(seen) > 0 {
			b = slices.Clone(seen[r.Intn(len(seen))])
			b[r.Intn(len(b))] ^= byte(1 + r.Intn(255))
		}
	}
	return b
}

// P25.4: what is refused changes nothing of what a router tells, nor of what sets out.
func TestRefusedChangesNothing(t *testing.T) {
	rules := long()
	rules.Rotate, rules.Settle.Period = 4, 3
	for seed := range int64(16) {
		r := rand.New(rand.NewSource(seed))
		plain, plagued := play(t, rules, 1, 2), play(t, rules, 1, 2)
		var seen [][]byte
		// The last hello's numbers are those of both, as frames that are refused take numbers, too.
		both := func(x body) {
			plain.counts[x.id] = plagued.counts[x.id]
			b := plagued.frame(x)
			if e, f := plain.r.Take(b), plagued.r.Take(b); e != f {
				t.Fatalf("seed %d: %d, or %d", seed, e, f)
			}
			seen = append(seen, b)
		}
		refuse := func() {
			b := plagued.strange(r, seen)
			if r.Intn(2) == 0 {
				b = plagued.frame(stale(rules, r, 1+r.Intn(2)))
			}
			was := telled(plagued.r)
			e := plagued.r.Take(b)
			if now := telled(plagued.r); !reflect.DeepEqual(was, now) {
				t.Fatalf("seed %d: %x, %d: %v, not %v", seed, b, e, now, was)
			}
		}
		both(renewalOf(1, recordOf(rules, 1, 0)))
		for step := range 12 {
			for _, x := range []body{
				helloOf(1, 1, 0, 0, 0, 0), helloOf(2, 1, uint32(r.Intn(2))),
				renewalOf(1, recordOf(rules, 3, 0)), renewalOf(1, recordOf(rules, 2, 0)),
				plain.claims(1+r.Intn(2), 3, key(0, uint32(r.Intn(4)), r.Intn(5))),
				plain.claims(1+r.Intn(2), 2, key(0, uint32(r.Intn(4)), r.Intn(5))),
			} {
				both(x)
				for range r.Intn(4) {
					refuse()
				}
			}
			outs, e := plain.r.Tick()
			others, f := plagued.r.Tick()
			if e != f || e != api.OK || !reflect.DeepEqual(outs, others) || !reflect.DeepEqual(telled(plain.r), telled(plagued.r)) {
				t.Fatalf("seed %d, step %d: %d frames, %d, or %d, %d; %v, or %v", seed, step, len(outs), e, len(others), f, telled(plain.r), telled(plagued.r))
			}
		}
	}
}

// P25.4: a neighbour that sends too much is refused; another one isn't touched.
func TestTollsStandAlone(t *testing.T) {
	rules := wide()
	rules.Peer.Rates = toll.Rates{Frames: 20, FramesTick: 2, Blocks: 2000, BlocksTick: 100}
	s := play(t, rules, 1, 2)
	s.meet(1, 2)
	s.ticks(1)
	r := rand.New(rand.NewSource(1))
	refused := 0
	for range 200 {
		frames, blocks := s.r.peers.Toll(2).Left()
		if s.r.Take(s.frame(stale(rules, r, 1))) == api.ErrToll {
			refused++
		}
		if f, b := s.r.peers.Toll(2).Left(); f != frames || b != blocks {
			t.Fatalf("another one's toll: %d, %d, not %d, %d", f, b, frames, blocks)
		}
		if f, b := s.r.peers.Toll(1).Left(); f < 0 || b < 0 {
			t.Fatalf("%d, %d are left", f, b)
		}
	}
	if refused < 150 {
		t.Errorf("%d are refused", refused)
	}
	s.know(2, 1, 3)
	s.offer(2, 3, key(0, 0, 1))
}
