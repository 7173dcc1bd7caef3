package mac

import (
	"bytes"
	"fingerpost/api"
	"testing"
)

func equal(t *testing.T, a, b []byte, want bool) {
	t.Helper()
	if Equal(a, b) != want || Equal(b, a) != want {
		t.Errorf("Equal(%v, %v) isn't %v", a, b, want)
	}
}

// P5.3
func TestEqual(t *testing.T) {
	equal(t, nil, nil, true)
	equal(t, nil, []byte{}, true)
	equal(t, nil, []byte{0}, false)
	equal(t, []byte{1}, []byte{1}, true)
	equal(t, []byte{1}, []byte{2}, false)
	equal(t, []byte{1, 2}, []byte{2, 1}, false)
	equal(t, []byte{1, 1}, []byte{2, 2}, false)
	equal(t, []byte{1, 2, 3}, []byte{1, 2}, false)
	equal(t, []byte{1, 2, 0}, []byte{1, 2}, false)
	equal(t, []byte{1, 2}, []byte{3, 2, 1}, false)
}

// P5.3: of each length, one bit unlike, wherever it stands.
func TestEqualByEachBit(t *testing.T) {
	for size := range 40 {
		p := text(size)
		equal(t, p, text(size), true)
		for bit := range 8 * size {
			q := bytes.Clone(p)
			q[bit/8] ^= 1 << (bit % 8)
			equal(t, p, q, false)
		}
	}
}

// P5.3: one length isn't another, however many bytes 0 there are.
func TestEqualByLength(t *testing.T) {
	for _, size := range []int{0, 1, 16, 32} {
		for _, more := range []int{1, 2, 255, 256, 257, 512, 1 << 16} {
			equal(t, make([]byte, size), make([]byte, size+more), false)
		}
		equal(t, make([]byte, size), make([]byte, size), true)
	}
}

// P5.3
func TestSame(t *testing.T) {
	a := api.Sum(text(16))
	if !Same(a, a) || !Same(api.Sum{}, api.Sum{}) {
		t.Error("one sum isn't itself")
	}
	for bit := range 128 {
		b := a
		b[bit/8] ^= 1 << (bit % 8)
		if Same(a, b) || Same(b, a) {
			t.Errorf("bit %d doesn't tell", bit)
		}
	}
}

// P5.3
func TestPick(t *testing.T) {
	var ones api.Sum
	for at := range ones {
		ones[at] = 255
	}
	sums := []api.Sum{{}, {1}, {15: 1}, ones, api.Sum(text(16)), api.Sum(text(99)[50:66])}
	for _, a := range sums {
		for _, b := range sums {
			if got := Pick(false, a, b); got != a {
				t.Errorf("Pick(false, %x, %x): %x", a, b, got)
			}
			if got := Pick(true, a, b); got != b {
				t.Errorf("Pick(true, %x, %x): %x", a, b, got)
			}
		}
	}
}
