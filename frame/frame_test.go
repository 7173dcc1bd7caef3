package frame

import (
	"bytes"
	"crypto/sha256"
	"encoding/hex"
	"fingerpost/api"
	"fingerpost/mac"
	"math"
	"math/rand"
	"testing"
)

func sealed(t *testing.T, key api.Digest, f Frame) []byte {
	t.Helper()
	b, e := Seal(key, f)
	if e != api.OK {
		t.Fatalf("Seal of %v: %d", f, e)
	}
	return b
}

// peeks holds Peek, and Open by a key, to what they answer.
func peeks(t *testing.T, what string, key api.Digest, b []byte, want Frame, peek, open api.Errno) {
	t.Helper()
	opened := want
	if open != api.OK {
		opened = Frame{}
	}
	if f, e := Peek(b); !f.is(want) || e != peek {
		t.Errorf("%s: Peek: %v, %d, not %d", what, f, e, peek)
	}
	if f, e := Open(key, b); !f.is(opened) || e != open {
		t.Errorf("%s: Open: %v, %d, not %d", what, f, e, open)
	}
}

func refused(t *testing.T, what string, key api.Digest, b []byte, want api.Errno) {
	t.Helper()
	peeks(t, what, key, b, Frame{}, want, want)
}

// P12.1: the kinds' numbers.
func TestKinds(t *testing.T) {
	if IsHello != 1 || IsUpdate != 2 || IsRenewal != 3 || IsPiece != 4 {
		t.Error(IsHello, IsUpdate, IsRenewal, IsPiece)
	}
}

// P12.1: frames that another program sealed.
func TestKnownFrames(t *testing.T) {
	for _, x := range []struct {
		key  api.Digest
		f    Frame
		want string
	}{
		{counting(), Frame{1, 0, 2, 3, IsHello, []byte{4}}, "0101000000000000000002000000000000000301000104c4d9c902d69c6384a04d28fe5eb992d9"},
		{counting(), Frame{7, 3, 0x0102030405060708, math.MaxUint64 - 1, IsPiece, nil}, "0107030102030405060708fffffffffffffffe040000a01676b9378727f1b8bd7ddf7d14b280"},
		{api.Digest{}, Frame{6, 5, 1, math.MaxUint64, IsRenewal, make([]byte, 300)},
			"0106050000000000000001ffffffffffffffff03012c" + hex.EncodeToString(make([]byte, 300)) + "9ea25bca4bb570d2e85541c54e618aa7"},
	} {
		want := unhex(t, x.want)
		if b := sealed(t, x.key, x.f); !bytes.Equal(b, want) {
			t.Errorf("Seal of %v: %x", x.f, b)
		}
		peeks(t, "known", x.key, want, x.f, api.OK, api.OK)
	}
	b := sealed(t, counting(), Frame{0, 7, math.MaxUint64, 1, IsUpdate, text(4096)})
	if d := sha256.Sum256(b); len(b) != 4134 || hex.EncodeToString(d[:16]) != "e4b0b869a92ac84824edd37f5431a41a" {
		t.Errorf("the longest one: %d bytes, %x", len(b), d)
	}
}

// P12.1, P12.3: what is sealed is the chapter's words; it is peeked, and opened, as it was.
func TestSealAndOpen(t *testing.T) {
	for _, key := range []api.Digest{{}, counting(), {31: 255}} {
		for _, f := range rightFrames() {
			b := sealed(t, key, f)
			if !bytes.Equal(b, tagged(key, untagged(f))) || len(b) != 38+len(f.Body) {
				t.Errorf("Seal of %v: %x", f, b)
			}
			peeks(t, "sealed", key, b, f, api.OK, api.OK)
		}
	}
}

// P12.1, Errors: a frame that isn't right isn't sealed; as bytes it is none, whatever tag it has.
func TestWrongFrames(t *testing.T) {
	l, told := wrongFrames()
	for at, f := range l {
		if b, e := Seal(counting(), f); len(b) != 0 || e != api.ErrArg {
			t.Errorf("Seal of %v: %x, %d", f, b, e)
		}
		if at < told {
			refused(t, "not right", counting(), tagged(counting(), untagged(f)), api.ErrForm)
			refused(t, "not right, nor its tag", counting(), append(untagged(f), make([]byte, 16)...), api.ErrForm)
		}
	}
}

// P12.1: of bytes that end ahead of a frame's end.
func TestShortFrames(t *testing.T) {
	for _, f := range []Frame{{1, 0, 2, 3, IsHello, nil}, {1, 0, 2, 3, IsHello, text(5)}, {0, 0, 0, 0, 0, text(3)}} {
		b := tagged(counting(), untagged(f))
		for size := range b {
			refused(t, "cut", counting(), b[:size], api.ErrShort)
		}
	}
	refused(t, "nothing", counting(), nil, api.ErrShort)
}

// P12.1, Errors: another first byte is told first, of whatever length; too many bytes, too.
func TestFirstByte(t *testing.T) {
	good := sealed(t, counting(), Frame{1, 0, 2, 3, IsHello, text(5)})
	long := append(untagged(Frame{1, 0, 2, 3, IsHello, nil})[:20], 0x10, 0x01)
	for first := range 256 {
		if first == 1 {
			continue
		}
		for _, b := range [][]byte{{0}, {0, 9}, good[:20], good[:37], good, long, append(bytes.Clone(good), 0)} {
			b = bytes.Clone(b)
			b[0] = byte(first)
			refused(t, "another first byte", counting(), b, api.ErrForm)
			if len(b) > 16 {
				refused(t, "another first byte, and its tag", counting(), tagged(counting(), b[:len(b)-16]), api.ErrForm)
			}
		}
	}
}

// P12.1, Errors: a body's length above MaxBlob is told as soon as it is read, ahead of what isn't right.
func TestLongBodies(t *testing.T) {
	for _, f := range []Frame{{1, 0, 2, 3, IsHello, nil}, {0, 0, 0, 0, 0, nil}} {
		for _, size := range []int{4097, 4098, 8192, 65535} {
			b := append(untagged(f)[:20], byte(size>>8), byte(size))
			refused(t, "too long", counting(), b, api.ErrLimit)
			refused(t, "too long", counting(), append(b, make([]byte, size+16)...), api.ErrLimit)
			refused(t, "too long", counting(), append(b, make([]byte, size+20)...), api.ErrLimit)
			refused(t, "not even a length", counting(), b[:21], api.ErrShort)
		}
	}
}

// P12.1, Errors: bytes behind a frame's end.
func TestBytesBehind(t *testing.T) {
	for _, f := range rightFrames()[:20] {
		b := sealed(t, counting(), f)
		for _, more := range []int{1, 2, 16, 38, 5000} {
			refused(t, "more", counting(), append(bytes.Clone(b), make([]byte, more)...), api.ErrForm)
			refused(t, "more, with a tag", counting(), tagged(counting(), append(untagged(f), make([]byte, more)...)), api.ErrForm)
		}
		refused(t, "two", counting(), append(bytes.Clone(b), b...), api.ErrForm)
	}
}

// P12.1, P12.3: with another tag, by another key, or with any bit turned, nothing is opened.
func TestOtherTags(t *testing.T) {
	f := Frame{1, 2, 0x0102030405060708, 0x1112131415161718, IsUpdate, text(40)}
	b := sealed(t, counting(), f)
	for bit := range 8 * len(b) {
		turned := bytes.Clone(b)
		turned[bit/8] ^= 1 << (bit % 8)
		g, e := Open(counting(), turned)
		_, want := readFrame(nil, turned)
		if want == api.OK {
			want = api.ErrMac
		}
		if !g.isZero() || e != want {
			t.Errorf("the bit %d turned: %v, %d, not %d", bit, g, e, want)
		}
		if bit >= 8*(len(b)-16) {
			peeks(t, "with another tag", counting(), turned, f, api.OK, api.ErrMac)
		}
	}
	for bit := range 256 {
		other := counting()
		other[bit/8] ^= 1 << (bit % 8)
		peeks(t, "by another key", other, b, f, api.OK, api.ErrMac)
	}
	peeks(t, "without a tag", counting(), append(untagged(f), make([]byte, 16)...), f, api.OK, api.ErrMac)
	part := tagOf(counting(), b[1:len(b)-16])
	peeks(t, "with the tag of a part", counting(), append(untagged(f), part...), f, api.OK, api.ErrMac)
}

// P12.1, P12.3: any bytes, held against the model; what is opened was sealed so.
func TestAnyFrames(t *testing.T) {
	r, key, opened := rand.New(rand.NewSource(1)), counting(), 0
	good := rightFrames()
	wrong, told := wrongFrames()
	good = append(good, wrong[:told]...)
	for range 20000 {
		b := spoilt(r, untagged(good[r.Intn(len(good))]))
		if r.Intn(4) > 0 {
			b = tagged(key, b)
		}
		b = spoilt(r, b)
		want, e := readFrame(nil, b)
		if got, f := Peek(b); !got.is(want) || f != e {
			t.Fatalf("Peek of %x: %v, %d, not %v, %d", b, got, f, want, e)
		}
		want, e = readFrame(&key, b)
		got, f := Open(key, b)
		if !got.is(want) || f != e {
			t.Fatalf("Open of %x: %v, %d, not %v, %d", b, got, f, want, e)
		}
		if f == api.OK {
			opened++
			if !bytes.Equal(sealed(t, key, got), b) {
				t.Fatalf("what was opened isn't Seal's: %x", b)
			}
		}
	}
	if opened < 1000 {
		t.Errorf("opened: %d", opened)
	}
}

// P12.1, R6: what layer 5 tells of the bytes that are tagged; blocks of 64 bytes, whatever the number is.
func TestCost(t *testing.T) {
	for body := range 4200 {
		if got := Cost(body); got != mac.Cost(32, body+22) {
			t.Errorf("Cost(%d): %d", body, got)
		}
	}
	for body, want := range map[int]int{
		0: 4, 33: 4, 34: 5, 97: 5, 98: 6, 4096: 68,
		-1: 4, -22: 4, -23: 4, -64: 4, math.MinInt: 4,
		math.MaxInt: 1<<57 + 4, math.MaxInt - 21: 1<<57 + 4, math.MaxInt - 22: 1<<57 + 4, math.MaxInt - 29: 1<<57 + 4, math.MaxInt - 30: 1<<57 + 3, math.MaxInt - 64: 1<<57 + 3,
	} {
		if got := Cost(body); got != want {
			t.Errorf("Cost(%d): %d, not %d", body, got, want)
		}
	}
}

// R3: what is handed in is not changed and not kept; what is handed out is new memory.
func TestFramesAreNewMemory(t *testing.T) {
	body := append(make([]byte, 0, 100), text(40)...)
	f := Frame{1, 2, 3, 4, IsPiece, body}
	b := sealed(t, counting(), f)
	fill(body, 9)
	if !bytes.Equal(b[22:62], text(40)) {
		t.Error("what was sealed is the body's memory")
	}
	for _, open := range []func([]byte) (Frame, api.Errno){Peek, func(b []byte) (Frame, api.Errno) { return Open(counting(), b) }} {
		before := bytes.Clone(b)
		g, e := open(b)
		if e != api.OK {
			t.Fatalf("%d", e)
		}
		fill(g.Body, 7)
		if !bytes.Equal(b, before) {
			t.Error("a frame's bytes were changed by its body")
		}
		g, _ = open(b)
		fill(b[:cap(b)], 8)
		if !bytes.Equal(g.Body, text(40)) {
			t.Error("a body was changed by the frame's bytes")
		}
		b = before
	}
}

// fill overwrites a list, its spare room too.
func fill(b []byte, with byte) {
	b = b[:cap(b)]
	for at := range b {
		b[at] = with
	}
}
