package frame

import (
	"bytes"
	"fingerpost/api"
	"math"
	"math/rand"
	"slices"
	"testing"
)

func hellos() []Hello {
	l := []Hello{{}, {Heard: 255}, {Heard: 5, Wants: []uint32{7}}, {1, []uint32{0, math.MaxUint32, 0x01020304}}}
	var wants []uint32
	for n := range uint32(8) {
		wants = append(wants, n<<29|n)
		l = append(l, Hello{1 << n, slices.Clone(wants)})
	}
	return l
}

func noHello(t *testing.T, what string, b []byte, want api.Errno) {
	t.Helper()
	if h, e := GetHello(b); !h.is(Hello{}) || e != want {
		t.Errorf("%s: GetHello of %x: %v, %d, not %d", what, b, h, e, want)
	}
}

// P12.2
func TestPutAndGetHello(t *testing.T) {
	for _, h := range hellos() {
		b := PutHello(h)
		if !bytes.Equal(b, helloBytes(h)) {
			t.Errorf("PutHello of %v: %x", h, b)
		}
		if got, e := GetHello(b); !got.is(h) || e != api.OK {
			t.Errorf("GetHello: %v, %d, not %v", got, e, h)
		}
	}
	if b := PutHello(Hello{5, []uint32{7, 0x01020304}}); !bytes.Equal(b, []byte{5, 2, 0, 0, 0, 7, 1, 2, 3, 4}) {
		t.Errorf("PutHello: %x", b)
	}
	if b := PutHello(Hello{Wants: []uint32{}}); !bytes.Equal(b, []byte{0, 0}) {
		t.Errorf("PutHello of an empty list: %x", b)
	}
}

// P12.2: of more than MaxNodes numbers the first ones.
func TestPutHelloOfTooMany(t *testing.T) {
	for _, many := range []int{9, 10, 255, 256, 257, 1000} {
		h := Hello{Heard: 9}
		for n := range many {
			h.Wants = append(h.Wants, uint32(n+1))
		}
		if b := PutHello(h); !bytes.Equal(b, helloBytes(Hello{9, h.Wants[:8]})) {
			t.Errorf("PutHello of %d: %x", many, b)
		}
	}
}

// P12.2, Errors: too many numbers are told as soon as that is read.
func TestWrongHellos(t *testing.T) {
	for many := 9; many < 256; many++ {
		b := []byte{1, byte(many)}
		noHello(t, "too many", b, api.ErrLimit)
		noHello(t, "too many", append(b, make([]byte, 4*many)...), api.ErrLimit)
		noHello(t, "too many", append(b, make([]byte, 4*many+1)...), api.ErrLimit)
	}
	for _, h := range hellos() {
		b := helloBytes(h)
		for size := range b {
			noHello(t, "cut", b[:size], api.ErrShort)
		}
		for more := 1; more < 9; more++ {
			noHello(t, "more", append(bytes.Clone(b), make([]byte, more)...), api.ErrForm)
		}
	}
	noHello(t, "nothing", nil, api.ErrShort)
}

// P12.2: any bytes, held against the model; what was got is put again as it was.
func TestAnyHellos(t *testing.T) {
	r, all, got := rand.New(rand.NewSource(3)), hellos(), 0
	for range 20000 {
		b := spoilt(r, helloBytes(all[r.Intn(len(all))]))
		want, e := readHello(b)
		h, f := GetHello(b)
		if !h.is(want) || f != e {
			t.Fatalf("GetHello of %x: %v, %d, not %v, %d", b, h, f, want, e)
		}
		if f == api.OK {
			got++
			if !bytes.Equal(PutHello(h), b) {
				t.Fatalf("what was got isn't PutHello's: %x", b)
			}
		}
	}
	if got < 1000 {
		t.Errorf("got: %d", got)
	}
}
