package field

import (
	"bytes"
	"fingerpost/api"
	"math"
	"slices"
	"testing"
)

// laid is what was laid, and its bytes as they must be.
func laid(t *testing.T, o *Out, want ...byte) {
	t.Helper()
	if b, e := o.Bytes(); !bytes.Equal(b, want) || e != api.OK {
		t.Errorf("Bytes: %v, %d, not %v", b, e, want)
	}
}

func refused(t *testing.T, o *Out, want api.Errno) {
	t.Helper()
	if b, e := o.Bytes(); len(b) != 0 || e != want {
		t.Errorf("Bytes: %v, %d, not the error %d", b, e, want)
	}
}

// sum is a short sum whose bytes are all unlike.
func sum(from byte) api.Sum {
	var s api.Sum
	for at := range s {
		s[at] = from + byte(at)
	}
	return s
}

// widths are the calls that lay and take numbers, by their bytes.
func widths() map[int]struct {
	lay  func(*Out, uint64)
	take func(*In) uint64
} {
	return map[int]struct {
		lay  func(*Out, uint64)
		take func(*In) uint64
	}{
		1: {(*Out).U8, (*In).U8},
		2: {(*Out).U16, (*In).U16},
		4: {(*Out).U32, (*In).U32},
		8: {(*Out).U64, (*In).U64},
	}
}

// P3.1
func TestLayNothing(t *testing.T) {
	laid(t, Lay())
}

// P3.1: the highest byte first.
func TestLayNumbers(t *testing.T) {
	o := Lay()
	o.U8(0x01)
	o.U16(0x0203)
	o.U32(0x04050607)
	o.U64(0x08090a0b0c0d0e0f)
	laid(t, o, 1, 2, 3, 4, 5, 6, 7, 8, 9, 10, 11, 12, 13, 14, 15)
}

// P3.1: of each width the least and the greatest number, and what is too great.
func TestLayNumbersAtTheirEnds(t *testing.T) {
	for size, w := range widths() {
		greatest := uint64(math.MaxUint64) >> (64 - 8*size)
		o := Lay()
		w.lay(o, 0)
		w.lay(o, 1)
		w.lay(o, greatest)
		zero := make([]byte, size)
		one := append(make([]byte, size-1), 1)
		laid(t, o, slices.Concat(zero, one, bytes.Repeat([]byte{255}, size))...)
		for _, n := range []uint64{greatest + 1, greatest + 2, greatest<<8 + 255, 1 << 63, math.MaxUint64} {
			if n <= greatest {
				continue
			}
			o := Lay()
			w.lay(o, n)
			refused(t, o, api.ErrLimit)
		}
	}
}

// P3.1: the first example.
func TestLayExample(t *testing.T) {
	o := Lay()
	o.U16(258)
	o.Blob([]byte("a"))
	laid(t, o, 1, 2, 0, 1, 'a')
}

// P3.1
func TestLaySum(t *testing.T) {
	o := Lay()
	o.Sum(sum(3))
	o.Sum(api.Sum{})
	laid(t, o, 3, 4, 5, 6, 7, 8, 9, 10, 11, 12, 13, 14, 15, 16, 17, 18, 0, 0, 0, 0, 0, 0, 0, 0, 0, 0, 0, 0, 0, 0, 0, 0)
}

// P3.1
func TestLaySums(t *testing.T) {
	for _, many := range []int{0, 1, 2, 254, 255} {
		want := []byte{byte(many)}
		var l []api.Sum
		for at := range many {
			s := sum(byte(at))
			l = append(l, s)
			want = append(want, s[:]...)
		}
		o := Lay()
		o.Sums(l)
		laid(t, o, want...)
	}
	for _, many := range []int{256, 257, 511, 512, 1 << 16} {
		o := Lay()
		o.Sums(make([]api.Sum, many))
		refused(t, o, api.ErrLimit)
	}
}

// P3.1
func TestLayBlob(t *testing.T) {
	for _, many := range []int{0, 1, 255, 256, 4095, 4096} {
		p := bytes.Repeat([]byte{7}, many)
		o := Lay()
		o.Blob(p)
		laid(t, o, append([]byte{byte(many >> 8), byte(many)}, p...)...)
	}
	for _, many := range []int{4097, 65535, 65536, 65537} {
		o := Lay()
		o.Blob(make([]byte, many))
		refused(t, o, api.ErrLimit)
	}
}

// P3.1: what isn't there is an empty list.
func TestLayNil(t *testing.T) {
	o := Lay()
	o.Sums(nil)
	o.Blob(nil)
	laid(t, o, 0, 0, 0)
}

// P3.1: what is too great is so for good, whatever stands ahead of it, and whatever is laid behind it.
func TestTooGreatStays(t *testing.T) {
	for _, tooGreat := range []func(*Out){
		func(o *Out) { o.U8(256) },
		func(o *Out) { o.U16(1 << 16) },
		func(o *Out) { o.U32(1 << 32) },
		func(o *Out) { o.Sums(make([]api.Sum, 256)) },
		func(o *Out) { o.Blob(make([]byte, 4097)) },
	} {
		o := Lay()
		o.U8(1)
		tooGreat(o)
		for _, behind := range []func(){
			func() {}, func() { o.U8(1) }, func() { o.U64(1) }, func() { o.Sum(sum(1)) },
			func() { o.Sums(nil) }, func() { o.Blob([]byte{1}) }, func() { tooGreat(o) },
		} {
			behind()
			refused(t, o, api.ErrLimit)
			refused(t, o, api.ErrLimit)
		}
	}
}

// P3.1: Bytes takes nothing away, and more may be laid behind it.
func TestLayBehindBytes(t *testing.T) {
	o := Lay()
	o.U8(1)
	laid(t, o, 1)
	laid(t, o, 1)
	o.U16(2)
	laid(t, o, 1, 0, 2)
}

// P3.1, R1
func TestNilOut(t *testing.T) {
	var o *Out
	for _, n := range []uint64{0, 1, math.MaxUint64} {
		o.U8(n)
		o.U16(n)
		o.U32(n)
		o.U64(n)
	}
	o.Sum(sum(1))
	o.Sums([]api.Sum{sum(1)})
	o.Sums(make([]api.Sum, 256))
	o.Blob([]byte{1})
	o.Blob(make([]byte, 4097))
	refused(t, o, api.ErrNil)
}

// R1: an Out that nobody made panics neither.
func TestUnmadeOut(t *testing.T) {
	o := &Out{}
	o.U8(1)
	o.Sums([]api.Sum{sum(1)})
	o.Blob([]byte{1})
	o.U8(256)
	o.Bytes()
}

// R3: what is handed in is neither changed, nor its spare room, nor kept.
func TestLayKeepsNothing(t *testing.T) {
	room := []byte{1, 2, 3, 4, 5, 6}
	sums := []api.Sum{sum(1), sum(2), sum(3)}
	o := Lay()
	o.Blob(room[:2])
	o.Sums(sums[:1])
	want, _ := o.Bytes()
	want = bytes.Clone(want)
	if !bytes.Equal(room, []byte{1, 2, 3, 4, 5, 6}) || !slices.Equal(sums, []api.Sum{sum(1), sum(2), sum(3)}) {
		t.Errorf("arguments were turned: %v, %v", room, sums)
	}
	clear(room)
	clear(sums)
	laid(t, o, want...)
}

// R3: what is handed out is new memory each time, its spare room too.
func TestBytesAreNew(t *testing.T) {
	o := Lay()
	o.U32(0x01020304)
	first, _ := o.Bytes()
	second, _ := o.Bytes()
	first = first[:cap(first)]
	for at := range first {
		first[at] = 9
	}
	if !bytes.Equal(second, []byte{1, 2, 3, 4}) {
		t.Errorf("two answers share memory: %v", second)
	}
	laid(t, o, 1, 2, 3, 4)
	o.U8(5)
	laid(t, o, 1, 2, 3, 4, 5)
	if slices.ContainsFunc(first, func(b byte) bool { return b != 9 }) {
		t.Errorf("an answer was turned by what was laid behind it: %v", first)
	}
}

// R5: one Out isn't another one.
func TestOutsStandAlone(t *testing.T) {
	a, b := Lay(), Lay()
	a.U8(1)
	b.U8(256)
	laid(t, a, 1)
	refused(t, b, api.ErrLimit)
}
