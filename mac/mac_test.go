package mac

import (
	"bytes"
	"crypto/hmac"
	"crypto/sha256"
	"encoding/binary"
	"encoding/hex"
	"fingerpost/api"
	"math"
	"slices"
	"strings"
	"testing"
)

// text is so many bytes, no two rows of 64 of them alike.
func text(size int) []byte {
	p := make([]byte, size)
	for at := range p {
		p[at] = byte(at*7 + at>>6)
	}
	return p
}

// tag is the tag by another program.
func tag(k, p []byte) api.Digest {
	h := hmac.New(sha256.New, k)
	h.Write(p)
	return api.Digest(h.Sum(nil))
}

// P5.1: the texts of RFC 4231, and the chapter's example.
func TestMacOfKnownTexts(t *testing.T) {
	long := strings.Repeat("\xaa", 131)
	for _, x := range []struct{ k, p, want string }{
		{strings.Repeat("\x0b", 20), "Hi There", "b0344c61d8db38535ca8afceaf0bf12b881dc200c9833da726e9376c2e32cff7"},
		{"Jefe", "what do ya want for nothing?", "5bdcc146bf60754e6a042426089575c75a003f089d2739839dec58b964ec3843"},
		{strings.Repeat("\xaa", 20), strings.Repeat("\xdd", 50), "773ea91e36800e46854db8ebd09181a72959098b3ef8c122d9635514ced565fe"},
		{long, "Test Using Larger Than Block-Size Key - Hash Key First", "60e431591ee0b67f0d8a26aacbf5b77f8e0bc6213728c5140546040f0ee37f54"},
		{long, "This is a test using a larger than block-size key and a larger than block-size data. " +
			"The key needs to be hashed before being used by the HMAC algorithm.",
			"9b09ffa71b942fcb27635fbcd5b0e944bfdc63644f0713938a7f51535c3a35e2"},
	} {
		d := Mac([]byte(x.k), []byte(x.p))
		if hex.EncodeToString(d[:]) != x.want {
			t.Errorf("Mac of %q: %x", x.p, d)
		}
	}
}

// P5.1: keys around a block's end, messages around several.
func TestMac(t *testing.T) {
	for _, k := range []int{0, 1, 16, 32, 63, 64, 65, 66, 127, 128, 129, 200} {
		for p := range 200 {
			key, message := text(300)[100:100+k], text(p)
			want := tag(key, message)
			if got := Mac(key, message); got != want {
				t.Errorf("Mac of %d bytes by %d: %x", p, k, got)
			}
			if got := Tag(key, message); got != api.Sum(want[:16]) {
				t.Errorf("Tag of %d bytes by %d: %x", p, k, got)
			}
		}
	}
	if Mac(nil, nil) != tag(nil, nil) || Mac([]byte{}, []byte{}) != tag(nil, nil) {
		t.Error("nil isn't the empty list")
	}
}

// P5.1: a key ends by bytes 0, or by none; a greater one is its sum.
func TestKeysBlock(t *testing.T) {
	key := []byte("a key")
	if Mac(key, []byte("abc")) != Mac(append(key, make([]byte, 59)...), []byte("abc")) {
		t.Error("bytes 0 behind a key tell")
	}
	if Mac(key, []byte("abc")) == Mac(append(key, make([]byte, 60)...), []byte("abc")) {
		t.Error("65 bytes aren't summed")
	}
	long := text(65)
	d := sha256.Sum256(long)
	if Mac(long, nil) != Mac(d[:], nil) {
		t.Error("a key of 65 bytes isn't its sum")
	}
}

// blocks is how many the sum of so many bytes takes, by what stands behind them.
func blocks(n int) int {
	size := n + 1
	for size%64 != 56 {
		size++
	}
	return (size + 8) / 64
}

// P5.1: what the sums take of which a tag is made.
func TestCost(t *testing.T) {
	for k := range 200 {
		for n := range 200 {
			want := blocks(64+n) + blocks(64+32)
			if k > 64 {
				want += blocks(k)
			}
			if got := Cost(k, n); got != want {
				t.Errorf("Cost(%d, %d): %d, not %d", k, n, got, want)
			}
		}
	}
}

// P5.1
func TestCostAtTheEnds(t *testing.T) {
	most := math.MaxInt/64 + 2
	for _, x := range []struct{ k, n, want int }{
		{32, 100, 5}, {0, 0, 4}, {64, 55, 4}, {64, 56, 5}, {65, 0, 6}, {119, 0, 6}, {120, 0, 7},
		{-1, 0, 4}, {math.MinInt, 0, 4}, {0, -1, 4}, {0, -64, 4}, {0, math.MinInt, 4}, {-1, -1, 4}, {65, -100, 6},
		{math.MaxInt, 0, most + 4}, {0, math.MaxInt, most + 3}, {math.MaxInt, math.MaxInt, 2*most + 3},
	} {
		if got := Cost(x.k, x.n); got != x.want {
			t.Errorf("Cost(%d, %d): %d, not %d", x.k, x.n, got, x.want)
		}
	}
}

// P5.2
func TestShort(t *testing.T) {
	for _, parts := range [][][]byte{
		nil, {}, {nil}, {{}, {}}, {{1}}, {{1}, nil, {2, 3}}, {text(16), text(16)}, {text(63)}, {text(64), {9}}, {text(100), text(100), text(100)},
	} {
		for _, kind := range []byte{0, 1, 'L', 255} {
			d := sha256.Sum256(append([]byte{kind}, slices.Concat(parts...)...))
			if got := Short(kind, parts...); got != api.Sum(d[:16]) {
				t.Errorf("Short(%d, %v): %x", kind, parts, got)
			}
		}
	}
	if Short('a', []byte("b"), []byte("c")) != Short('a', []byte("bc")) {
		t.Error("where a part ends tells")
	}
}

// P5.2: of each count of numbers against its bytes; the count is told by its lowest byte.
func TestPrf(t *testing.T) {
	seed := api.Digest(text(32))
	for _, many := range []int{0, 1, 2, 3, 8, 255, 256, 257, 512} {
		var nums []uint64
		p := []byte{'O', byte(many)}
		for at := range many {
			n := uint64(at+1) * 0x0123456789abcdef
			nums = append(nums, n)
			p = binary.BigEndian.AppendUint64(p, n)
		}
		want := tag(seed[:], p)
		if got := Prf(seed, 'O', nums...); got != api.Sum(want[:16]) {
			t.Errorf("Prf of %d numbers: %x", many, got)
		}
	}
	want := tag(make([]byte, 32), []byte{255, 2, 0, 0, 0, 0, 0, 0, 0, 0, 255, 255, 255, 255, 255, 255, 255, 255})
	if got := Prf(api.Digest{}, 255, 0, math.MaxUint64); got != api.Sum(want[:16]) {
		t.Errorf("Prf of the ends: %x", got)
	}
}

// P5.2: seed, kind, each number and how many there are tell.
func TestPrfTells(t *testing.T) {
	got := map[api.Sum]int{}
	for at, s := range []api.Sum{
		Prf(api.Digest{}, 1, 2), Prf(api.Digest{1}, 1, 2), Prf(api.Digest{31: 1}, 1, 2), Prf(api.Digest{}, 2, 2),
		Prf(api.Digest{}, 1, 3), Prf(api.Digest{}, 1, 2, 0), Prf(api.Digest{}, 1, 0, 2), Prf(api.Digest{}, 1),
		Prf(api.Digest{}, 1, 2<<56), Prf(api.Digest{}, 1, 2<<32),
	} {
		if other, ok := got[s]; ok {
			t.Errorf("%d and %d are one", other, at)
		}
		got[s] = at
	}
}

// R3: what is handed in is neither changed, nor its spare room.
func TestNothingIsTurned(t *testing.T) {
	for _, size := range []int{0, 5, 32, 64, 65} {
		room, nums := text(200), []uint64{1, 2, 3, 4}
		Mac(room[:size], room[:size])
		Tag(room[:size], room[:size])
		Short('a', room[:size], room[:5])
		Prf(api.Digest{}, 'a', nums[:2]...)
		Equal(room[:size], room[:5])
		if !bytes.Equal(room, text(200)) || !slices.Equal(nums, []uint64{1, 2, 3, 4}) {
			t.Errorf("arguments of %d bytes were turned: %v, %v", size, room, nums)
		}
	}
}
