package field

import (
	"bytes"
	"fingerpost/api"
	"math"
	"slices"
	"testing"
)

// state holds an In to what is left and to its error.
func state(t *testing.T, i *In, left int, want api.Errno) {
	t.Helper()
	if n, e := i.Left(), i.Err(); n != left || e != want {
		t.Errorf("Left %d, Err %d, not %d, %d", n, e, left, want)
	}
}

// allZero holds an In to zero fields alone.
func allZero(t *testing.T, i *In) {
	t.Helper()
	if i.U8() != 0 || i.U16() != 0 || i.U32() != 0 || i.U64() != 0 || i.Sum() != (api.Sum{}) {
		t.Error("a number or a sum isn't zero")
	}
	if len(i.Sums(255)) != 0 || len(i.Blob(4096)) != 0 || i.Left() != 0 {
		t.Error("a list isn't empty")
	}
}

// counting are bytes 1, 2, 3 ..
func counting(many int) []byte {
	b := make([]byte, many)
	for at := range b {
		b[at] = byte(at + 1)
	}
	return b
}

// P3.2: the highest byte first.
func TestTakeNumbers(t *testing.T) {
	i := Take(counting(15))
	state(t, i, 15, api.OK)
	if n := i.U8(); n != 0x01 {
		t.Errorf("U8: %#x", n)
	}
	state(t, i, 14, api.OK)
	if n := i.U16(); n != 0x0203 {
		t.Errorf("U16: %#x", n)
	}
	state(t, i, 12, api.OK)
	if n := i.U32(); n != 0x04050607 {
		t.Errorf("U32: %#x", n)
	}
	state(t, i, 8, api.OK)
	if n := i.U64(); n != 0x08090a0b0c0d0e0f {
		t.Errorf("U64: %#x", n)
	}
	state(t, i, 0, api.OK)
	if e := i.End(); e != api.OK {
		t.Errorf("End: %d", e)
	}
}

// P3.2: of each width the greatest number, and bytes that end ahead of its end.
func TestTakeNumbersAtTheirEnds(t *testing.T) {
	for size, w := range widths() {
		i := Take(bytes.Repeat([]byte{255}, size))
		if n := w.take(i); n != uint64(math.MaxUint64)>>(64-8*size) {
			t.Errorf("%d bytes: %#x", size, n)
		}
		state(t, i, 0, api.OK)
		for short := range size {
			i := Take(bytes.Repeat([]byte{255}, short))
			if n := w.take(i); n != 0 {
				t.Errorf("%d bytes of %d: %#x", short, size, n)
			}
			state(t, i, 0, api.ErrShort)
			allZero(t, i)
		}
	}
}

// P3.2: behind an error all is zero, also what there were bytes for.
func TestTakeBehindError(t *testing.T) {
	i := Take(counting(3))
	if n := i.U32(); n != 0 {
		t.Errorf("U32: %d", n)
	}
	state(t, i, 0, api.ErrShort)
	allZero(t, i)
	state(t, i, 0, api.ErrShort)
	if e := i.End(); e != api.ErrShort {
		t.Errorf("End: %d", e)
	}
}

// P3.2
func TestTakeSum(t *testing.T) {
	i := Take(append(counting(16), 77))
	if s := i.Sum(); s != sum(1) {
		t.Errorf("Sum: %v", s)
	}
	state(t, i, 1, api.OK)
	for _, short := range []int{0, 1, 15} {
		i := Take(counting(short))
		if s := i.Sum(); s != (api.Sum{}) {
			t.Errorf("Sum of %d bytes: %v", short, s)
		}
		state(t, i, 0, api.ErrShort)
		allZero(t, i)
	}
}

// sums are so many short sums, and their bytes.
func sums(many int) ([]api.Sum, []byte) {
	var l []api.Sum
	var b []byte
	for at := range many {
		s := sum(byte(at + 1))
		l = append(l, s)
		b = append(b, s[:]...)
	}
	return l, b
}

// P3.2
func TestTakeSums(t *testing.T) {
	for _, x := range []struct{ many, most int }{
		{0, 0}, {0, -1}, {0, math.MinInt}, {0, 5}, {1, 1}, {1, 2}, {3, 3}, {254, 255}, {255, 255}, {255, 256}, {255, math.MaxInt},
	} {
		l, b := sums(x.many)
		i := Take(append(append([]byte{byte(x.many)}, b...), 99))
		if got := i.Sums(x.most); !slices.Equal(got, l) {
			t.Errorf("Sums(%d) of %d: %v", x.most, x.many, got)
		}
		state(t, i, 1, api.OK)
	}
}

// P3.2: more than is asked for is so as soon as the number is read, whether the sums are there or not.
func TestTakeTooManySums(t *testing.T) {
	for _, x := range []struct{ many, most int }{
		{1, 0}, {1, -1}, {1, math.MinInt}, {2, 1}, {4, 3}, {255, 254}, {255, 0}, {128, 127},
	} {
		_, b := sums(x.many)
		for _, there := range []int{0, 1, len(b) - 1, len(b)} {
			i := Take(append([]byte{byte(x.many)}, b[:there]...))
			if got := i.Sums(x.most); len(got) != 0 {
				t.Errorf("Sums(%d) of %d: %v", x.most, x.many, got)
			}
			state(t, i, 0, api.ErrLimit)
			allZero(t, i)
		}
	}
}

// P3.2: of sums that are cut none is answered.
func TestTakeCutSums(t *testing.T) {
	i := Take(nil)
	if got := i.Sums(3); len(got) != 0 {
		t.Errorf("Sums of nothing: %v", got)
	}
	state(t, i, 0, api.ErrShort)
	_, b := sums(3)
	for there := range b {
		i := Take(append([]byte{3}, b[:there]...))
		if got := i.Sums(3); len(got) != 0 {
			t.Errorf("Sums of %d bytes: %v", there, got)
		}
		state(t, i, 0, api.ErrShort)
		allZero(t, i)
	}
}

// blob is so many bytes behind their number.
func blob(many int) (p, b []byte) {
	p = counting(many)
	return p, append([]byte{byte(many >> 8), byte(many)}, p...)
}

// P3.2
func TestTakeBlob(t *testing.T) {
	for _, x := range []struct{ many, most int }{
		{0, 0}, {0, -1}, {0, math.MinInt}, {0, 5}, {1, 1}, {1, 2}, {255, 255}, {256, 256}, {4095, 4096}, {4096, 4096}, {4096, 4097}, {4096, math.MaxInt},
	} {
		p, b := blob(x.many)
		i := Take(append(b, 99))
		if got := i.Blob(x.most); !bytes.Equal(got, p) {
			t.Errorf("Blob(%d) of %d: %d bytes", x.most, x.many, len(got))
		}
		state(t, i, 1, api.OK)
	}
}

// P3.2: more than is asked for, or than any blob has, is so as soon as the number is read.
func TestTakeTooLongBlob(t *testing.T) {
	for _, x := range []struct{ many, most int }{
		{1, 0}, {1, -1}, {1, math.MinInt}, {2, 1}, {256, 255}, {4096, 4095}, {4097, 4097}, {4097, 4096}, {4097, math.MaxInt}, {65535, 65535}, {65535, math.MaxInt},
	} {
		p, b := blob(x.many)
		for _, there := range []int{0, 1, len(p) - 1, len(p)} {
			i := Take(b[:2+there])
			if got := i.Blob(x.most); len(got) != 0 {
				t.Errorf("Blob(%d) of %d: %d bytes", x.most, x.many, len(got))
			}
			state(t, i, 0, api.ErrLimit)
			allZero(t, i)
		}
	}
}

// P3.2
func TestTakeCutBlob(t *testing.T) {
	_, b := blob(300)
	for there := range b {
		i := Take(b[:there])
		if got := i.Blob(300); len(got) != 0 {
			t.Errorf("Blob of %d bytes: %d bytes", there, len(got))
		}
		state(t, i, 0, api.ErrShort)
		allZero(t, i)
	}
}

// P3.2
func TestFail(t *testing.T) {
	for _, e := range []api.Errno{api.ErrArg, api.ErrForm, api.ErrWord, -1, 1000, math.MinInt, math.MaxInt} {
		i := Take(counting(40))
		i.U8()
		i.Fail(api.OK)
		state(t, i, 39, api.OK)
		i.Fail(e)
		state(t, i, 0, e)
		i.Fail(api.ErrNone)
		i.Fail(api.OK)
		state(t, i, 0, e)
		allZero(t, i)
		state(t, i, 0, e)
		if end := i.End(); end != e {
			t.Errorf("End behind Fail(%d): %d", e, end)
		}
	}
}

// P3.2: the first error stays, whichever it is.
func TestFirstErrorStays(t *testing.T) {
	i := Take([]byte{1})
	i.U16()
	i.Fail(api.ErrArg)
	state(t, i, 0, api.ErrShort)
	i = Take([]byte{2})
	i.Sums(1)
	i.Fail(api.ErrArg)
	state(t, i, 0, api.ErrLimit)
	i = Take([]byte{2})
	i.Fail(api.ErrArg)
	i.Sums(1)
	i.U64()
	state(t, i, 0, api.ErrArg)
}

// P3.2
func TestEnd(t *testing.T) {
	i := Take(nil)
	if e := i.End(); e != api.OK {
		t.Errorf("End of nothing: %d", e)
	}
	i = Take(counting(2))
	i.U8()
	if e := i.End(); e != api.ErrForm {
		t.Errorf("End of a byte: %d", e)
	}
	// It isn't asked only: it is the error from then on.
	state(t, i, 0, api.ErrForm)
	allZero(t, i)
	if e := i.End(); e != api.ErrForm {
		t.Errorf("End once more: %d", e)
	}
	// An End that was well leaves all as it was.
	i = Take(counting(1))
	i.U8()
	i.End()
	i.U8()
	state(t, i, 0, api.ErrShort)
}

// P3.2, R1
func TestNilIn(t *testing.T) {
	var i *In
	allZero(t, i)
	i.Fail(api.ErrArg)
	i.Fail(api.OK)
	allZero(t, i)
	state(t, i, 0, api.ErrNil)
	if e := i.End(); e != api.ErrNil {
		t.Errorf("End: %d", e)
	}
}

// R1: an In that nobody made panics neither.
func TestUnmadeIn(t *testing.T) {
	i := &In{}
	allZero(t, i)
	i.Fail(api.ErrArg)
	i.Err()
	i.End()
}

// R3: the bytes that were handed in are neither kept nor changed, nor what stands behind them.
func TestTakeKeepsNothing(t *testing.T) {
	room := counting(40)
	i := Take(room[:38])
	clear(room)
	if i.U16() != 0x0102 || i.U32() != 0x03040506 || i.Sum() != sum(7) || i.Sum() != sum(23) || i.End() != api.OK {
		t.Error("another one's writing is to be seen")
	}
	room = []byte{0, 1, 7, 8, 9}
	i = Take(room[:3])
	i.Blob(1)
	i.U8()
	i.End()
	if !bytes.Equal(room, []byte{0, 1, 7, 8, 9}) {
		t.Errorf("the bytes were turned: %v", room)
	}
}

// R3: lists that are handed out are new memory, their spare room too.
func TestTakenListsAreNew(t *testing.T) {
	o := Lay()
	o.Blob([]byte{1, 2})
	o.Sums([]api.Sum{sum(1), sum(2)})
	o.Blob([]byte{3})
	o.Sums([]api.Sum{sum(3)})
	o.U8(4)
	b, _ := o.Bytes()
	was := bytes.Clone(b)
	i := Take(b)
	p, l := i.Blob(2), i.Sums(2)
	p, l = p[:cap(p)], l[:cap(l)]
	for at := range p {
		p[at] = 9
	}
	for at := range l {
		l[at] = sum(9)
	}
	if q, m := i.Blob(1), i.Sums(1); !bytes.Equal(q, []byte{3}) || !slices.Equal(m, []api.Sum{sum(3)}) {
		t.Errorf("what comes behind was turned: %v, %v", q, m)
	}
	if i.U8() != 4 || i.End() != api.OK || !bytes.Equal(b, was) {
		t.Error("the bytes were turned")
	}
}
