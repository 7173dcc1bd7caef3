package sha

import (
	"bytes"
	"crypto/sha256"
	"encoding"
	"encoding/binary"
	"fingerpost/api"
	"math"
	"math/rand"
	"strings"
	"testing"
)

// text is so many bytes, no two rows of 64 of them alike.
func text(size int) []byte {
	p := make([]byte, size)
	for at := range p {
		p[at] = byte(at*7 + at>>6)
	}
	return p
}

// P4.1: what the standard and its examples tell.
func TestSumOfKnownTexts(t *testing.T) {
	for _, x := range []struct{ text, want string }{
		{"", "e3b0c44298fc1c149afbf4c8996fb92427ae41e4649b934ca495991b7852b855"},
		{"abc", "ba7816bf8f01cfea414140de5dae2223b00361a396177a9cb410ff61f20015ad"},
		{"abcdbcdecdefdefgefghfghighijhijkijkljklmklmnlmnomnopnopq",
			"248d6a61d20638b8e5c026930c3e6039a33ce45964ff2167f6ecedd419db06c1"},
		{"abcdefghbcdefghicdefghijdefghijkefghijklfghijklmghijklmnhijklmnoijklmnopjklmnopqklmnopqrlmnopqrsmnopqrstnopqrstu",
			"cf5b16a778af8380036ce59e7b0492370b249b11e8f07a51afac45037afee9d1"},
		{strings.Repeat("a", 1000000), "cdc76e5c9914fb9281a1c7e284d73e67f1809a48a497200e046d39ccc7112cd0"},
	} {
		d := Sum([]byte(x.text))
		if Hex(d[:]) != x.want {
			t.Errorf("Sum of %d bytes: %s, not %s", len(x.text), Hex(d[:]), x.want)
		}
	}
}

// P4.1: of each length around some ends of blocks, against another program of the standard.
func TestSumOfEachLength(t *testing.T) {
	if Sum(nil) != Sum([]byte{}) {
		t.Error("nil isn't the empty list")
	}
	p := text(1000)
	for size := range len(p) + 1 {
		if got := Sum(p[:size]); got != sha256.Sum256(p[:size]) {
			t.Errorf("Sum of %d bytes: %x", size, got)
		}
	}
}

// P4.1
func TestBlocks(t *testing.T) {
	for _, x := range []struct{ n, want int }{
		{0, 1}, {1, 1}, {55, 1}, {56, 2}, {63, 2}, {64, 2}, {65, 2}, {119, 2}, {120, 3}, {127, 3}, {128, 3},
		{-1, 1}, {-9, 1}, {-64, 1}, {math.MinInt, 1},
		{math.MaxInt, math.MaxInt/64 + 2}, {math.MaxInt - 8, math.MaxInt/64 + 1}, {math.MaxInt - 7, math.MaxInt/64 + 2},
	} {
		if got := Blocks(x.n); got != x.want {
			t.Errorf("Blocks(%d): %d, not %d", x.n, got, x.want)
		}
	}
	for n := range 1000 {
		// As the words tell what stands behind the text, byte by byte.
		size := n + 1
		for size%64 != 56 {
			size++
		}
		if got := Blocks(n); got != (size+8)/64 {
			t.Errorf("Blocks(%d): %d, not %d", n, got, (size+8)/64)
		}
	}
}

// has holds a sum under way to what was taken in; twice, as to be asked changes nothing.
func has(t *testing.T, s *Hash, p []byte) {
	t.Helper()
	for range 2 {
		if got := s.Sum(); got != sha256.Sum256(p) {
			t.Errorf("Sum behind %d bytes: %x", len(p), got)
		}
		if got := s.Blocks(); got != Blocks(len(p)) {
			t.Errorf("Blocks behind %d bytes: %d", len(p), got)
		}
	}
}

// P4.2
func TestNew(t *testing.T) {
	s := New()
	has(t, s, nil)
	s.Write(nil)
	s.Write([]byte{})
	has(t, s, nil)
	s.Write([]byte("abc"))
	has(t, s, []byte("abc"))
}

// P4.2: in two pieces, wherever the first one ends; asked between them.
func TestWriteTwice(t *testing.T) {
	p := text(265)
	for first := range 200 {
		for _, second := range []int{0, 1, 8, 54, 55, 56, 57, 63, 64, 65} {
			asked, other := New(), New()
			asked.Write(p[:first])
			has(t, asked, p[:first])
			for _, s := range []*Hash{asked, other} {
				if s == other {
					s.Write(p[:first])
				}
				s.Write(p[first : first+second])
				s.Write(nil)
				has(t, s, p[:first+second])
			}
		}
	}
}

// P4.2: byte by byte, asked behind each.
func TestWriteByByte(t *testing.T) {
	p := text(300)
	s := New()
	for at := range p {
		s.Write(p[at : at+1])
		has(t, s, p[:at+1])
	}
}

// P4.2: in pieces of any lengths.
func TestWriteInPieces(t *testing.T) {
	r := rand.New(rand.NewSource(4))
	for range 300 {
		s := New()
		var all []byte
		for range r.Intn(12) {
			p := make([]byte, r.Intn(1+r.Intn(300)))
			r.Read(p)
			s.Write(p)
			all = append(all, p...)
			if r.Intn(2) == 0 {
				has(t, s, all)
			}
		}
		has(t, s, all)
	}
}

// P4.1, P4.2: the number of bits has 64 of its own: against another program, told that as many bytes went by.
func TestManyBytes(t *testing.T) {
	for _, taken := range []int{1 << 20, 1<<29 - 64, 1 << 29, 1 << 30, 1<<31 - 64} {
		other := sha256.New()
		state, err := other.(encoding.BinaryMarshaler).MarshalBinary()
		if err != nil {
			t.Fatal(err)
		}
		binary.BigEndian.PutUint64(state[len(state)-8:], uint64(taken))
		if err := other.(encoding.BinaryUnmarshaler).UnmarshalBinary(state); err != nil {
			t.Fatal(err)
		}
		s := New()
		s.taken = taken
		p := text(63)
		s.Write(p)
		other.Write(p)
		if d := s.Sum(); !bytes.Equal(d[:], other.Sum(nil)) {
			t.Errorf("Sum behind %d bytes: %x", taken+63, d)
		}
		if s.Blocks() != taken/64+2 {
			t.Errorf("Blocks behind %d bytes: %d", taken+63, s.Blocks())
		}
	}
}

// P4.2, R1
func TestNilHash(t *testing.T) {
	var s *Hash
	s.Write([]byte("abc"))
	s.Write(nil)
	s.Write(text(200))
	if s.Sum() != (api.Digest{}) || s.Blocks() != 0 {
		t.Errorf("of nil: %x, %d", s.Sum(), s.Blocks())
	}
}

// R1: a Hash that nobody made panics neither.
func TestUnmadeHash(t *testing.T) {
	s := &Hash{}
	s.Write(text(200))
	s.Sum()
	s.Blocks()
}

// R3: what is handed in is neither changed, nor its spare room, nor kept.
func TestWriteKeepsNothing(t *testing.T) {
	for _, size := range []int{1, 63, 64, 65, 130} {
		room := text(200)
		s := New()
		s.Write(room[:size])
		s.Sum()
		Sum(room[:size])
		if !bytes.Equal(room, text(200)) {
			t.Errorf("%d bytes were turned", size)
		}
		clear(room)
		has(t, s, text(200)[:size])
	}
}

// R5: one sum under way isn't another one.
func TestHashesStandAlone(t *testing.T) {
	a, b := New(), New()
	a.Write([]byte("a"))
	b.Write(text(64))
	a.Write([]byte("bc"))
	has(t, a, []byte("abc"))
	has(t, b, text(64))
	has(t, New(), nil)
}
