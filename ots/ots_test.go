package ots

import (
	"fingerpost/api"
	"math"
	"testing"
)

// P10.1, P10.2
func TestNumbers(t *testing.T) {
	if Chains != 68 || Top != 3 || Worst != 222 || len(Sig{}) != 68 {
		t.Errorf("%d, %d, %d, %d", Chains, Top, Worst, len(Sig{}))
	}
}

func isDigits(t *testing.T, m api.Sum) {
	t.Helper()
	want := digitsOf(m)
	for at, digit := range Digits(m) {
		if int(digit) != want[at] {
			t.Errorf("Digits(%x): %v, not %v", m, Digits(m), want)
			return
		}
	}
}

// P10.1: the chapter's examples, and a message whose digits were told by hand.
func TestKnownDigits(t *testing.T) {
	for chain, digit := range Digits(ones()) {
		if want := byte(3); chain < 64 && digit != want || chain >= 64 && digit != 0 {
			t.Errorf("of ff the digit %d is %d", chain, digit)
		}
	}
	for chain, digit := range Digits(api.Sum{}) {
		if chain != 64 && digit != 0 || chain == 64 && digit != 3 {
			t.Errorf("of 0 the digit %d is %d", chain, digit)
		}
	}
	// 180 are lacking: 2 3 1 0 to the base 4.
	got, want := Digits(api.Sum{0x1b, 0xe4}), [Chains]byte{0, 1, 2, 3, 3, 2, 1, 0, 64: 2, 3, 1, 0}
	if got != want {
		t.Errorf("%v, not %v", got, want)
	}
}

// P10.1
func TestDigits(t *testing.T) {
	for n := range 500 {
		isDigits(t, some(n))
	}
	for bit := range 128 {
		one, none := api.Sum{}, ones()
		one[bit/8] ^= 0x80 >> (bit % 8)
		none[bit/8] ^= 0x80 >> (bit % 8)
		isDigits(t, one)
		isDigits(t, none)
	}
	for much := range 193 {
		isDigits(t, lacking(much))
	}
}

// P10.1, P10.2: sums that another program made.
func TestKnownSums(t *testing.T) {
	m := api.Sum(sixteen())
	isSum(t, "a link", Link(Name{5, 0x01020304}, 67, 2, m), "adcd0158f9dd8f4176b53aa757627673")
	isSum(t, "the public part of 0, 0", Public(counting(), Name{}), "b83a2512618f3b9de71ddd8a2a1ada77")
	isSum(t, "the public part of 7, 65537", Public(counting(), Name{7, 65537}), "a72208bb934130f69feccac86c247446")
	n := Name{3, 0x01020304}
	isSum(t, "the public part of 3, ..", Public(counting(), n), "34f00c473bb4f60cf94b2d34a5825828")
	s := Sign(counting(), n, m)
	isSum(t, "the first link", s[0], "6ef077aef32a1c2f9b84910a212cd5e2")
	isSum(t, "the link 21", s[21], "14c19912bb83875f97613bc33a261aeb")
	isSum(t, "the last link", s[67], "2c106c6f64ec5076bba4d6f969df57d2")
	s = Sign(counting(), n, ones())
	isSum(t, "the first link of ff", s[0], "c9114c46afebf8e4dafa70ceca28e10a")
	isSum(t, "the link 21 of ff", s[21], "d33f5489ab43da09d217b1b98640c0a6")
	var any Sig
	for chain := range any {
		for at := range any[chain] {
			any[chain][at] = byte(chain)
		}
	}
	isSum(t, "Recover", Recover(Name{3, 9}, m, any), "ebf936c5d4e5d9a1f10a68c5f7785c12")
}

// numbersOfAll are such as chains and steps have, at their edges, and others.
func numbersOfAll() []int {
	return []int{0, 1, 2, 3, 63, 64, 67, 68, 255, 256, 259, -1, -256, math.MaxInt, math.MinInt}
}

// P10.1: of any numbers, each told by its lowest byte.
func TestLink(t *testing.T) {
	m := &maker{}
	for _, n := range names() {
		for _, chain := range numbersOfAll() {
			for _, step := range numbersOfAll() {
				if got, want := Link(n, chain, step, some(chain^step)), m.link(n, chain, step, some(chain^step)); got != want {
					t.Errorf("Link(%v, %d, %d, ..): %x, not %x", n, chain, step, got, want)
				}
			}
		}
	}
}

// P10.1: a link is bound to its key, its chain, its step, the link ahead of it.
func TestLinkTells(t *testing.T) {
	n, a := Name{1, 2}, some(1)
	got := map[api.Sum]int{}
	for at, s := range []api.Sum{
		Link(n, 3, 1, a), Link(Name{2, 2}, 3, 1, a), Link(Name{1, 3}, 3, 1, a), Link(Name{2, 1}, 3, 1, a),
		Link(Name{1, 2 + 1<<8}, 3, 1, a), Link(Name{1, 2 + 1<<16}, 3, 1, a), Link(Name{1, 2 + 1<<24}, 3, 1, a),
		Link(n, 4, 1, a), Link(n, 3, 2, a), Link(n, 1, 3, a), Link(n, 3, 1, some(2)),
	} {
		if other, ok := got[s]; ok {
			t.Errorf("%d and %d are one", other, at)
		}
		got[s] = at
	}
	if Link(Name{257, 2}, 259, -255, a) != Link(n, 3, 1, a) {
		t.Error("more than the lowest byte tells")
	}
}

// P10.1
func TestPublicAndSign(t *testing.T) {
	m := &maker{}
	for at, n := range names() {
		for _, seed := range []api.Digest{counting(), {}, {31: byte(at)}} {
			if got, want := Public(seed, n), m.public(seed, n); got != want {
				t.Errorf("Public(%x, %v): %x, not %x", seed, n, got, want)
			}
			for _, message := range []api.Sum{{}, ones(), some(at)} {
				if Sign(seed, n, message) != m.sign(seed, n, message) {
					t.Errorf("Sign(%x, %v, %x) has other links", seed, n, message)
				}
			}
		}
	}
	for _, message := range messages() {
		if Sign(counting(), Name{2, 3}, message) != m.sign(counting(), Name{2, 3}, message) {
			t.Errorf("Sign of %x has other links", message)
		}
	}
}

// P10.1: a key hangs on the seed's each byte, the destination, the index; no two links of its chains are one.
func TestKeysTell(t *testing.T) {
	type key struct {
		seed api.Digest
		n    Name
	}
	base := key{counting(), Name{1, 258}}
	l := []key{base, {base.seed, Name{2, 258}}, {base.seed, Name{257, 258}}, {base.seed, Name{1, 2}}, {base.seed, Name{1, 513}}, {base.seed, Name{1, 258 + 1<<24}}}
	for at := range base.seed {
		other := base
		other.seed[at] ^= 1
		l = append(l, other)
	}
	seen := map[api.Sum]key{}
	for _, k := range l {
		sums := []api.Sum{Public(k.seed, k.n)}
		lowest := Sign(k.seed, k.n, api.Sum{})
		for chain, s := range lowest {
			for step := range 4 {
				if chain == 64 && step == 3 {
					break // of this one the first link isn't shown
				}
				sums = append(sums, s)
				s = Link(k.n, chain, step, s)
			}
		}
		for _, s := range sums {
			if other, ok := seen[s]; ok {
				t.Errorf("%v and %v have one sum", k, other)
			}
			seen[s] = k
		}
	}
}

// R5: what is answered hangs on the arguments alone, which stay as they are.
func TestNothingIsKept(t *testing.T) {
	n, s := Name{4, 5}, filled(9)
	first := Recover(n, some(1), s)
	Sign(counting(), n, some(2))
	Recover(n, some(3), filled(11))
	if Recover(n, some(1), s) != first || s != filled(9) {
		t.Error("Recover changed something")
	}
}
