package spring

import (
	"crypto/hmac"
	"crypto/sha256"
	"encoding/binary"
	"encoding/hex"
	"fingerpost/api"
	"math"
	"testing"
)

// source is what a spring is made of.
type source struct {
	rules Rules
	seed  api.Digest
	dest  int
	epoch uint32
}

// counting is the seed of the bytes 0 to 31.
func counting() api.Digest {
	var d api.Digest
	for at := range d {
		d[at] = byte(at)
	}
	return d
}

// sources have all widths, the least and the greatest of all numbers among them.
func sources() []source {
	return []source{
		{Rules{1, 1, 0}, api.Digest{}, 0, 0},
		{Rules{1, 16, 2}, counting(), 0, 7},
		{Rules{2, 3, 1}, api.Digest{1}, 1, 0x0102},
		{Rules{4, 6, 3}, counting(), 2, api.MaxEpoch},
		{Rules{8, 16, 0}, counting(), 7, 1},
		{Rules{8, 2, 6}, api.Digest{31: 9}, 5, 300},
	}
}

func (o source) spring(t *testing.T) *Spring {
	t.Helper()
	s, e := New(o.rules, o.seed, o.dest, o.epoch)
	if s == nil || e != api.OK {
		t.Fatalf("New of %v: %v, %d", o, s, e)
	}
	return s
}

// The rest makes what the chapters' words tell, by another program's sums.

func short(text []byte) api.Sum {
	d := sha256.Sum256(text)
	return api.Sum(d[:16])
}

func (o source) first(seq int) api.Sum {
	text := []byte{'E', 3}
	for _, n := range []uint64{uint64(o.dest), uint64(o.epoch), uint64(seq)} {
		text = binary.BigEndian.AppendUint64(text, n)
	}
	h := hmac.New(sha256.New, o.seed[:])
	h.Write(text)
	return api.Sum(h.Sum(nil)[:16])
}

// over is what stands above the nodes from first on, below last, in a rung's tree.
func (o source) over(seq, rung int, e api.Sum, first, last int) api.Sum {
	at := binary.BigEndian.AppendUint32([]byte{byte(o.dest)}, o.epoch)
	at = append(binary.BigEndian.AppendUint32(at, uint32(seq)), byte(rung))
	if last-first == 1 {
		return short(append(append(append([]byte{'L'}, at...), e[:]...), byte(first)))
	}
	middle := (first + last) / 2
	a, b := o.over(seq, rung, e, first, middle), o.over(seq, rung, e, middle, last)
	return short(append(append(append([]byte{'J'}, at...), a[:]...), b[:]...))
}

func (o source) element(seq, rung int) api.Sum {
	if rung == 0 {
		return o.first(seq)
	}
	return o.over(seq, rung-1, o.element(seq, rung-1), 0, o.rules.Width)
}

// top is what stands above the ladders from first on, so many levels up.
func (o source) top(first, level int) api.Sum {
	if level == 0 {
		return o.element(first, o.rules.Steps)
	}
	text := binary.BigEndian.AppendUint32([]byte{'G', byte(o.dest)}, o.epoch)
	a, b := o.top(first, level-1), o.top(first+1<<(level-1), level-1)
	return short(append(append(append(text, byte(level)), a[:]...), b[:]...))
}

func (o source) path(seq int) []api.Sum {
	var path []api.Sum
	for level := range o.rules.Height {
		path = append(path, o.top((seq>>level^1)<<level, level))
	}
	return path
}

// seqs are a height's sequences, but for some in the middle of the greatest ones.
func seqs(height int) []int {
	if height < 5 {
		var l []int
		for seq := range 1 << height {
			l = append(l, seq)
		}
		return l
	}
	return []int{0, 1, 2, 13, 1<<height - 2, 1<<height - 1}
}

// noSeqs are none of a height, at the edges and far off.
func noSeqs(height int) []int {
	return []int{-1, 1 << height, 1<<height + 1, 64, 256, 1 << 32, math.MaxInt, math.MinInt, math.MinInt + 1}
}

func isSum(t *testing.T, what string, got api.Sum, want string) {
	t.Helper()
	if hex.EncodeToString(got[:]) != want {
		t.Errorf("%s: %x, not %s", what, got, want)
	}
}
