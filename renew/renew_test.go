package renew

import (
	"fingerpost/api"
	"fingerpost/ots"
	"fingerpost/spring"
	"math"
	"slices"
	"testing"
)

// P11.1: sums that another program made.
func TestKnownSums(t *testing.T) {
	m := api.Sum{0, 1, 2, 3, 4, 5, 6, 7, 8, 9, 10, 11, 12, 13, 14, 15}
	turned := m
	slices.Reverse(turned[:])
	r := Record{5, 0x01020304, m, turned}
	isSum(t, "a message", Message(r), "b0e9d0815d50cffade51af99448a9e25")
	if Cost(r) != 124 {
		t.Errorf("Cost: %d", Cost(r))
	}
	for _, x := range []struct {
		r                    spring.Rules
		dest                 int
		epoch                uint32
		message, next, bytes string
		cost                 int
	}{
		{spring.Rules{Width: 1, Steps: 1, Height: 0}, 0, 0, "d9fd600f44e1a8e34a35216ab8047132", "30ed127fab3215c6cc640d4b5d8f8830", "e1ad643cb43682ced4512afa879c98a6", 130},
		{spring.Rules{Width: 2, Steps: 3, Height: 1}, 1, 5, "ea99a0fe5a32fbf2bd85d6bf088ce7ca", "6ba04cf9f5d8dc51f0eb4e632419f66d", "6920e447edae890c01814d95c8a6052c", 103},
		{spring.Rules{Width: 4, Steps: 6, Height: 3}, 2, 65536, "38ff28904d6ad8480c79f9b133a753fc", "69a40e16588ce7d0a8038f3d9fc55015", "a23be23a0b18d553162e54a16dee2661", 118},
	} {
		got, e := Issue(sprung(t, x.r, x.dest, x.epoch), counting(), x.dest, x.epoch)
		if e != api.OK || Cost(got.Record) != x.cost {
			t.Errorf("Issue of %d, %d: %d; Cost: %d", x.dest, x.epoch, e, Cost(got.Record))
		}
		isSum(t, "the message", Message(got.Record), x.message)
		isSum(t, "the next key", got.Record.Next, x.next)
		isSum(t, "all bytes", short(laid(t, got)), x.bytes)
	}
}

// P11.1
func TestMessage(t *testing.T) {
	for _, r := range records() {
		if got := Message(r); got != message(r) {
			t.Errorf("Message(%v): %x, not %x", r, got, message(r))
		}
	}
	base := Record{3, 258, some(1), some(2)}
	l := []Record{base, {4, 258, some(1), some(2)}, {3, 2, some(1), some(2)}, {3, 513, some(1), some(2)}, {3, 258, some(2), some(1)}}
	for bit := range 128 {
		root, next := base, base
		root.Root[bit/8] ^= 1 << (bit % 8)
		next.Next[bit/8] ^= 1 << (bit % 8)
		l = append(l, root, next)
	}
	seen := map[api.Sum]Record{}
	for _, r := range l {
		m := Message(r)
		if other, ok := seen[m]; ok {
			t.Errorf("%v and %v have one message", other, r)
		}
		seen[m] = r
	}
	if Message(Record{259, 258, some(1), some(2)}) != Message(base) {
		t.Error("more than the lowest byte of the destination tells")
	}
}

// P11.1
func TestIssue(t *testing.T) {
	for dest := range 8 {
		for _, epoch := range []uint32{0, 1, 257, 1<<16 - 1, 1 << 16} {
			s := sprung(t, rules, dest, epoch)
			x, e := Issue(s, counting(), dest, epoch)
			r := Record{dest, epoch, s.Root(), public(dest, epoch+1)}
			if e != api.OK || x.Record != r || x.Sig != ots.Sign(counting(), ots.Name{Dest: dest, Index: epoch}, message(r)) {
				t.Errorf("Issue of %d, %d: %v, %d", dest, epoch, x.Record, e)
			}
		}
	}
}

// P11.1: the root is the spring's, whosever it is; the keys are the seed's.
func TestIssueOfAnotherSpring(t *testing.T) {
	s, seed := sprung(t, rules, 1, 7), api.Digest{9}
	x, e := Issue(s, seed, 2, 8)
	r := Record{2, 8, s.Root(), ots.Public(seed, ots.Name{Dest: 2, Index: 9})}
	if e != api.OK || x != signed(r, seed, ots.Name{Dest: 2, Index: 8}) {
		t.Errorf("%v, %d", x.Record, e)
	}
}

// noDests, noEpochs are none, at the edges and far off.
var noDests = []int{-1, 8, 9, 255, 256, 1 << 32, math.MaxInt, math.MinInt}

var noEpochs = []uint32{1<<16 + 1, 1<<16 + 2, 1 << 17, 1 << 31, math.MaxUint32}

// P11.1, Errors: a spring that isn't there comes first.
func TestIssueOfWrongNumbers(t *testing.T) {
	s := sprung(t, rules, 1, 7)
	refused := func(s *spring.Spring, dest int, epoch uint32, want api.Errno) {
		if x, e := Issue(s, counting(), dest, epoch); x != (Signed{}) || e != want {
			t.Errorf("Issue of %d, %d: %v, %d", dest, epoch, x.Record, e)
		}
	}
	for _, dest := range append(noDests, 1) {
		for _, epoch := range append(noEpochs, 7) {
			refused(nil, dest, epoch, api.ErrNil)
			if dest != 1 || epoch != 7 {
				refused(s, dest, epoch, api.ErrArg)
			}
		}
	}
	// With an error nothing has changed: not even a ladder was reckoned.
	if s.Made() != 0 {
		t.Errorf("Made: %d", s.Made())
	}
	Issue(&spring.Spring{}, counting(), 1, 7)
}

// P11.1: one block for the message, which the record's 37 bytes fit in, and Recover's.
func TestCost(t *testing.T) {
	if Worst != 223 {
		t.Errorf("Worst: %d", Worst)
	}
	for n, r := range append(records(), records()...) {
		r.Root = some(n)
		if got := Cost(r); got != 1+ots.Cost(message(r)) || got > Worst {
			t.Errorf("Cost(%v): %d", r, got)
		}
	}
}
