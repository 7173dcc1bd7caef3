package renew

import (
	"bytes"
	"fingerpost/api"
	"fingerpost/field"
	"testing"
)

// P11.1
func TestPut(t *testing.T) {
	for _, r := range records() {
		x := filled(r.Dest, r.Epoch)
		x.Record = r
		b := laid(t, x)
		if !bytes.Equal(b, signedBytes(x)) || len(b) != 37+68*16 {
			t.Errorf("Put of %v: %x", r, b)
		}
	}
}

// P11.1: it stands behind what was laid, and what is laid then behind it.
func TestPutBetween(t *testing.T) {
	x, o := filled(3, 258), field.Lay()
	o.U8(9)
	Put(o, x)
	o.U16(258)
	want := append(append([]byte{9}, signedBytes(x)...), 1, 2)
	if b, e := o.Bytes(); !bytes.Equal(b, want) || e != api.OK {
		t.Errorf("%x, %d", b, e)
	}
	o.U8(256)
	Put(o, x)
	if b, e := o.Bytes(); len(b) != 0 || e != api.ErrLimit {
		t.Errorf("behind what was too great: %x, %d", b, e)
	}
	Put(nil, x)
}

// P11.1: what was laid is taken as it was, but for what the lowest byte of the destination doesn't tell.
func TestGet(t *testing.T) {
	for _, r := range records() {
		x := filled(r.Dest, r.Epoch)
		x.Record = r
		i := field.Take(laid(t, x))
		got := Get(i)
		x.Record.Dest &= 0xff
		if got != x || i.End() != api.OK {
			t.Errorf("Get of %v: %v, %d", x.Record, got.Record, i.End())
		}
	}
}

// P11.1
func TestGetBetween(t *testing.T) {
	x, y, o := filled(3, 258), issued(t, 2, 1), field.Lay()
	o.U16(7)
	Put(o, x)
	Put(o, y)
	o.U8(9)
	b, _ := o.Bytes()
	i := field.Take(b)
	n, first, second := i.U16(), Get(i), Get(i)
	if n != 7 || first != x || second != y || i.Left() != 1 || i.U8() != 9 || i.End() != api.OK {
		t.Errorf("%d, %v, %v, %d", n, first.Record, second.Record, i.End())
	}
}

// P11.1: of bytes that end ahead of its end there is none of it.
func TestGetOfTooFew(t *testing.T) {
	b := laid(t, filled(3, 0x01020304))
	for size := range b {
		i := field.Take(b[:size])
		if got := Get(i); got != (Signed{}) || i.Err() != api.ErrShort || i.Left() != 0 {
			t.Errorf("Get of %d bytes: %v, %d", size, got.Record, i.Err())
		}
	}
}

// P11.1: behind an error, too, and that one stays.
func TestGetBehindAnError(t *testing.T) {
	i := field.Take(laid(t, filled(3, 258)))
	i.Fail(api.ErrSum)
	if got := Get(i); got != (Signed{}) || i.Err() != api.ErrSum {
		t.Errorf("%v, %d", got.Record, i.Err())
	}
	if got := Get(nil); got != (Signed{}) {
		t.Errorf("of nothing: %v", got.Record)
	}
	if got := Get(&field.In{}); got != (Signed{}) {
		t.Errorf("of no bytes: %v", got.Record)
	}
}
