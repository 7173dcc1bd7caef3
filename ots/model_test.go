package ots

import (
	"crypto/hmac"
	"crypto/sha256"
	"encoding/binary"
	"encoding/hex"
	"fingerpost/api"
	"math"
	"testing"
)

// maker makes what the chapter's words tell, by another program's sums, and counts the texts and their blocks.
type maker struct {
	texts  int
	blocks int
}

func (m *maker) short(text []byte) api.Sum {
	m.texts++
	m.blocks += (len(text)+8)/64 + 1
	d := sha256.Sum256(text)
	return api.Sum(d[:16])
}

func (m *maker) first(seed api.Digest, n Name, chain int) api.Sum {
	text := []byte{'O', 3}
	for _, number := range []uint64{uint64(n.Dest), uint64(n.Index), uint64(chain)} {
		text = binary.BigEndian.AppendUint64(text, number)
	}
	h := hmac.New(sha256.New, seed[:])
	h.Write(text)
	return api.Sum(h.Sum(nil)[:16])
}

func (m *maker) link(n Name, chain, step int, s api.Sum) api.Sum {
	text := binary.BigEndian.AppendUint32([]byte{'W', byte(n.Dest)}, n.Index)
	return m.short(append(append(text, byte(chain), byte(step)), s[:]...))
}

// at is the link of a chain behind so many steps.
func (m *maker) at(seed api.Digest, n Name, chain, steps int) api.Sum {
	if steps == 0 {
		return m.first(seed, n, chain)
	}
	return m.link(n, chain, steps-1, m.at(seed, n, chain, steps-1))
}

func (m *maker) end(n Name, last Sig) api.Sum {
	text := binary.BigEndian.AppendUint32([]byte{'P', byte(n.Dest)}, n.Index)
	for _, s := range last {
		text = append(text, s[:]...)
	}
	return m.short(text)
}

func (m *maker) public(seed api.Digest, n Name) api.Sum {
	var last Sig
	for chain := range 68 {
		last[chain] = m.at(seed, n, chain, 3)
	}
	return m.end(n, last)
}

func (m *maker) sign(seed api.Digest, n Name, message api.Sum) Sig {
	var s Sig
	for chain, digit := range digitsOf(message) {
		s[chain] = m.at(seed, n, chain, digit)
	}
	return s
}

func (m *maker) recover(n Name, message api.Sum, s Sig) api.Sum {
	for chain, digit := range digitsOf(message) {
		for step := digit; step < 3; step++ {
			s[chain] = m.link(n, chain, step, s[chain])
		}
	}
	return m.end(n, s)
}

// digitsOf goes by divisions, where the program goes by shifts.
func digitsOf(message api.Sum) [68]int {
	var digits [68]int
	left := 0
	for at, b := range message {
		rest := int(b)
		for part := 3; part >= 0; part-- {
			digits[4*at+part] = rest % 4
			left += 3 - rest%4
			rest /= 4
		}
	}
	for at := 67; at >= 64; at-- {
		digits[at] = left % 4
		left /= 4
	}
	return digits
}

// counting is the seed of the bytes 0 to 31.
func counting() api.Digest {
	var d api.Digest
	for at := range d {
		d[at] = byte(at)
	}
	return d
}

// some is a short sum of no meaning, another one for each number.
func some(number int) api.Sum {
	d := sha256.Sum256([]byte{'?', byte(number), byte(number >> 8)})
	return api.Sum(d[:16])
}

func ones() api.Sum {
	var m api.Sum
	for at := range m {
		m[at] = 0xff
	}
	return m
}

// lacking is a message whose own digits lack so much, in all, of being 3 each.
func lacking(much int) api.Sum {
	m := ones()
	for at := range 64 {
		lack := min(much, 3)
		much -= lack
		m[at/4] -= byte(lack) << (6 - 2*(at%4))
	}
	return m
}

// messages are those of the edges, and some.
func messages() []api.Sum {
	l := []api.Sum{{}, ones(), api.Sum(sixteen()), {1}, {15: 1}, {0x1b, 0xe4}}
	for n := range 6 {
		l = append(l, some(n))
	}
	return l
}

// sixteen are the bytes 0 to 15.
func sixteen() []byte {
	d := counting()
	return d[:16]
}

// names have the least and the greatest numbers, and such as no destination has.
func names() []Name {
	return []Name{
		{}, {0, 1}, {1, 0}, {7, 1<<16 + 1}, {3, 0x01020304}, {5, math.MaxUint32},
		{-1, 7}, {8, 7}, {256, 7}, {math.MaxInt, 9}, {math.MinInt, 9},
	}
}

// filled are links of no meaning.
func filled(number int) Sig {
	var s Sig
	for chain := range s {
		s[chain] = some(number + chain)
	}
	return s
}

func isSum(t *testing.T, what string, got api.Sum, want string) {
	t.Helper()
	if hex.EncodeToString(got[:]) != want {
		t.Errorf("%s: %x, not %s", what, got, want)
	}
}
