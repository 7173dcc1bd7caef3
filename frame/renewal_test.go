package frame

import (
	"bytes"
	"fingerpost/api"
	"fingerpost/renew"
	"fingerpost/spring"
	"math"
	"math/rand"
	"testing"
)

// filled is a signed record of no meaning.
func filled(dest int, epoch uint32) renew.Signed {
	x := renew.Signed{Record: renew.Record{Dest: dest, Epoch: epoch, Root: some(1), Next: some(2)}}
	for chain := range x.Sig {
		x.Sig[chain] = some(3 + chain)
	}
	return x
}

func noRenewal(t *testing.T, what string, b []byte, want api.Errno) {
	t.Helper()
	if x, e := GetRenewal(b); x != (renew.Signed{}) || e != want {
		t.Errorf("%s: GetRenewal: %v, %d, not %d", what, x.Record, e, want)
	}
}

// P12.2: of any epoch, be there such a one or not.
func TestPutAndGetRenewal(t *testing.T) {
	for dest := range 8 {
		for _, epoch := range []uint32{0, 1, 258, 1 << 16, 1<<16 + 1, math.MaxUint32} {
			x := filled(dest, epoch)
			b, e := PutRenewal(x)
			if !bytes.Equal(b, renewalBytes(x)) || len(b) != 1125 || e != api.OK {
				t.Errorf("PutRenewal of %v: %x, %d", x.Record, b, e)
			}
			if got, e := GetRenewal(b); got != x || e != api.OK {
				t.Errorf("GetRenewal: %v, %d, not %v", got.Record, e, x.Record)
			}
		}
	}
}

// P12.2: a record that was issued is got as it was, and is taken then.
func TestIssuedRenewal(t *testing.T) {
	s, _ := spring.New(spring.Rules{Width: 8, Steps: 1, Height: 1}, counting(), 3, 5)
	x, _ := renew.Issue(s, counting(), 3, 5)
	b, e := PutRenewal(x)
	got, f := GetRenewal(b)
	if got != x || e != api.OK || f != api.OK {
		t.Errorf("%v, %d, %d", got.Record, e, f)
	}
}

// P12.2, Errors: of no destination; too few bytes, or too many, come ahead of that.
func TestWrongRenewals(t *testing.T) {
	for _, dest := range noNodes {
		if b, e := PutRenewal(filled(dest, 1)); len(b) != 0 || e != api.ErrArg {
			t.Errorf("PutRenewal of %d: %x, %d", dest, b, e)
		}
	}
	for dest := 8; dest < 256; dest++ {
		noRenewal(t, "of no destination", renewalBytes(filled(dest, 1)), api.ErrForm)
	}
	for _, dest := range []int{1, 8} {
		b := renewalBytes(filled(dest, 1))
		for size := range b {
			noRenewal(t, "cut", b[:size], api.ErrShort)
		}
		for _, more := range []int{1, 16, 1125} {
			noRenewal(t, "more", append(bytes.Clone(b), make([]byte, more)...), api.ErrForm)
		}
	}
	noRenewal(t, "nothing", nil, api.ErrShort)
}

// P12.2: any bytes, held against the model; what was got is put again as it was.
func TestAnyRenewals(t *testing.T) {
	r, got := rand.New(rand.NewSource(4)), 0
	for range 5000 {
		b := spoilt(r, renewalBytes(filled(r.Intn(9), r.Uint32())))
		want, e := readRenewal(b)
		x, f := GetRenewal(b)
		if x != want || f != e {
			t.Fatalf("GetRenewal of %x: %v, %d, not %v, %d", b, x, f, want, e)
		}
		if f == api.OK {
			got++
			if again, _ := PutRenewal(x); !bytes.Equal(again, b) {
				t.Fatalf("what was got isn't PutRenewal's: %x", b)
			}
		}
	}
	if got < 500 {
		t.Errorf("got: %d", got)
	}
}
