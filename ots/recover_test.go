package ots

import (
	"fingerpost/api"
	"testing"
)

// P10.2: of any links.
func TestRecover(t *testing.T) {
	m := &maker{}
	for at, n := range names() {
		for _, message := range append(messages(), some(100+at)) {
			for _, s := range []Sig{{}, filled(at)} {
				if got, want := Recover(n, message, s), m.recover(n, message, s); got != want {
					t.Errorf("Recover(%v, %x, ..): %x, not %x", n, message, got, want)
				}
			}
		}
	}
}

// P10.2: Cost is what a Recover takes, of all that may be lacking, and no cost is above Worst.
func TestCost(t *testing.T) {
	var l []api.Sum
	for much := range 193 {
		l = append(l, lacking(much), some(much))
	}
	for _, message := range append(l, messages()...) {
		m := &maker{}
		m.recover(Name{1, 2}, message, Sig{})
		if got := Cost(message); got != m.blocks || got != m.texts-1+18 || got > Worst {
			t.Errorf("Cost(%x): %d, not %d", message, got, m.blocks)
		}
	}
	for _, x := range []struct {
		m    api.Sum
		want int
	}{{api.Sum{}, 192 + 9 + 18}, {ones(), 0 + 12 + 18}, {api.Sum{0x1b, 0xe4}, 180 + 6 + 18}} {
		if got := Cost(x.m); got != x.want {
			t.Errorf("Cost(%x): %d, not %d", x.m, got, x.want)
		}
	}
}

// P10.3
func TestRecoverOfSignatures(t *testing.T) {
	for at, n := range names() {
		for _, seed := range []api.Digest{counting(), {byte(at)}} {
			public := Public(seed, n)
			for _, message := range append(messages(), some(100+at)) {
				if got := Recover(n, message, Sign(seed, n, message)); got != public {
					t.Errorf("Recover of what %v signed of %x: %x, not %x", n, message, got, public)
				}
			}
		}
	}
}

// lower is a digit of a that is lower than b's; -1, if there is none.
func lower(a, b api.Sum) int {
	other := Digits(b)
	for at, digit := range Digits(a) {
		if digit < other[at] {
			return at
		}
	}
	return -1
}

func bothLower(t *testing.T, a, b api.Sum) {
	t.Helper()
	if a != b && (lower(a, b) < 0 || lower(b, a) < 0) {
		t.Errorf("of %x and %x one has no lower digit", a, b)
	}
}

// P10.3: of messages that differ in one digit, in some, in how much is lacking alone, and not even in that.
func TestUnlikeMessages(t *testing.T) {
	l := messages()
	for much := 0; much < 193; much += 7 {
		l = append(l, lacking(much))
	}
	for _, a := range l {
		for at := range 128 {
			b := a
			b[at/8] ^= 1 << (at % 8)
			bothLower(t, a, b)
		}
		for _, b := range l {
			bothLower(t, a, b)
		}
	}
	for n := range 300 {
		bothLower(t, some(n), some(n+1))
	}
	for much := range 192 {
		bothLower(t, lacking(much), lacking(much+1))
		bothLower(t, ones(), lacking(much+1))
	}
}

// refused says that links don't lead to a key's public part.
func refused(t *testing.T, what string, public api.Sum, n Name, m api.Sum, s Sig) {
	t.Helper()
	if Recover(n, m, s) == public {
		t.Errorf("%s: the public part all the same", what)
	}
}

// P10.4: no bit of a signature may be turned, no two of its links swapped, none taken on, none left out.
func TestTurnedSignatures(t *testing.T) {
	n, m := Name{2, 77}, some(5)
	public, good := Public(counting(), n), Sign(counting(), n, m)
	for chain, digit := range Digits(m) {
		for bit := 0; bit < 128; bit += 1 + (chain+bit)%13 {
			s := good
			s[chain][bit/8] ^= 1 << (bit % 8)
			refused(t, "a turned bit", public, n, m, s)
		}
		s := good
		s[chain] = Link(n, chain, int(digit), s[chain])
		refused(t, "a link taken on", public, n, m, s)
		s = good
		s[chain] = api.Sum{}
		refused(t, "a link left out", public, n, m, s)
		s, next := good, (chain+1)%Chains
		s[chain], s[next] = s[next], s[chain]
		refused(t, "swapped links", public, n, m, s)
		if digit > 0 {
			s = good
			s[chain] = (&maker{}).at(counting(), n, chain, int(digit)-1)
			refused(t, "a link from below", public, n, m, s)
		}
	}
}

// P10.4: a signature is of its message, its destination, its index, its seed.
func TestOthersSignatures(t *testing.T) {
	n, m := Name{2, 77}, some(5)
	public, good := Public(counting(), n), Sign(counting(), n, m)
	for bit := range 128 {
		other := m
		other[bit/8] ^= 1 << (bit % 8)
		refused(t, "another message", public, n, other, good)
	}
	for _, other := range []Name{{3, 77}, {0, 77}, {2, 78}, {2, 76}, {2, 77 + 1<<8}, {2, 77 + 1<<24}} {
		refused(t, "checked by another name", public, other, m, good)
		refused(t, "signed by another name", public, n, m, Sign(counting(), other, m))
		refused(t, "another name's key", public, other, m, Sign(counting(), other, m))
	}
	for at := range 32 {
		seed := counting()
		seed[at] ^= 1
		refused(t, "another seed", public, n, m, Sign(seed, n, m))
	}
	refused(t, "nothing", public, n, m, Sig{})
}

// raised is what one who saw a message's signature knows of another's: each link that is above is taken on, none below is known.
func raised(n Name, m api.Sum, s Sig, other api.Sum) Sig {
	want := Digits(other)
	for chain, digit := range Digits(m) {
		for step := int(digit); step < int(want[chain]); step++ {
			s[chain] = Link(n, chain, step, s[chain])
		}
	}
	return s
}

// P10.4: who saw one signature signs no other message by it, however it takes links on.
func TestRaisedSignatures(t *testing.T) {
	n := Name{2, 77}
	public := Public(counting(), n)
	l := append(messages(), lacking(1), lacking(2), lacking(3), lacking(4), lacking(16), lacking(63), lacking(64), lacking(191))
	for _, m := range l {
		s := Sign(counting(), n, m)
		for _, other := range l {
			if other != m {
				refused(t, "raised links", public, n, other, raised(n, m, s, other))
			}
		}
		for digit := range 64 {
			other, by := m, byte(1)<<(6-2*(digit%4))
			if m[digit/4]/by%4 < 3 {
				other[digit/4] += by
				refused(t, "one digit raised", public, n, other, raised(n, m, s, other))
			}
		}
	}
}

// P10.4: but with a link from below it is signed: each chain that has to be lower needs one.
func TestLinksFromBelow(t *testing.T) {
	n, m, other := Name{2, 77}, some(5), some(6)
	public, own := Public(counting(), n), Sign(counting(), n, other)
	s := raised(n, m, Sign(counting(), n, m), other)
	last := 0
	for chain, digit := range Digits(m) {
		if Digits(other)[chain] < digit {
			refused(t, "a link too few from below", public, n, other, s)
			s[chain] = own[chain]
			last++
		}
	}
	if last == 0 || s != own || Recover(n, other, s) != public {
		t.Errorf("%d links from below don't sign", last)
	}
}
