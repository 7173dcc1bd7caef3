package piece

import (
	"bytes"
	"fingerpost/api"
	"math"
	"math/rand"
	"slices"
	"testing"
)

// P13.1
func TestPutAndGet(t *testing.T) {
	for _, p := range rightPieces() {
		b, e := Put(p)
		if !bytes.Equal(b, pieceBytes(p)) || len(b) != 8+len(p.Part) || e != api.OK {
			t.Errorf("Put of %v: %x, %d", p, b, e)
		}
		if got, e := Get(b); !got.is(p) || e != api.OK {
			t.Errorf("Get: %v, %d, not %v", got, e, p)
		}
	}
	b, e := Put(Piece{0x01020304, 5, 6, []byte{7, 8}})
	if !bytes.Equal(b, []byte{1, 2, 3, 4, 5, 6, 0, 2, 7, 8}) || e != api.OK {
		t.Errorf("Put: %x, %d", b, e)
	}
}

func getsNot(t *testing.T, what string, b []byte, want api.Errno) {
	t.Helper()
	if p, e := Get(b); !p.is(Piece{}) || e != want {
		t.Errorf("%s: Get of %x: %v, %d, not %d", what, b, p, e, want)
	}
}

// P13.1, Errors
func TestWrongPieces(t *testing.T) {
	l, told := wrongPieces()
	for at, p := range l {
		if b, e := Put(p); len(b) != 0 || e != api.ErrArg {
			t.Errorf("Put of %d of %d, %d bytes: %x, %d", p.At, p.Many, len(p.Part), b, e)
		}
		if at < told {
			b := pieceBytes(p)
			getsNot(t, "no piece", b, api.ErrForm)
			for size := range b {
				getsNot(t, "no piece, cut", b[:size], api.ErrShort)
			}
		}
	}
}

// P13.1, Errors: too few bytes, too many, and a length above MaxBlob, which is told as soon as it is read.
func TestGetOfOtherLengths(t *testing.T) {
	for _, p := range rightPieces() {
		b := pieceBytes(p)
		for size := range b {
			getsNot(t, "cut", b[:size], api.ErrShort)
		}
		for _, more := range []int{1, 2, 8, 4096} {
			getsNot(t, "more", append(bytes.Clone(b), make([]byte, more)...), api.ErrForm)
		}
	}
	for _, head := range [][]byte{{0, 0, 0, 1, 0, 1}, {0, 0, 0, 1, 1, 0}} {
		for _, size := range []int{4097, 4098, 8192, 65535} {
			b := append(bytes.Clone(head), byte(size>>8), byte(size))
			getsNot(t, "too long", b, api.ErrLimit)
			getsNot(t, "too long", append(b, make([]byte, size)...), api.ErrLimit)
			getsNot(t, "too long", append(b, make([]byte, size+1)...), api.ErrLimit)
		}
	}
	getsNot(t, "nothing", nil, api.ErrShort)
}

// P13.1: any bytes, held against the model; what was got is put again as it was.
func TestAnyBytes(t *testing.T) {
	r, got := rand.New(rand.NewSource(1)), 0
	l := rightPieces()
	for range 20000 {
		b := pieceBytes(l[r.Intn(len(l))])
		for range r.Intn(3) {
			at := min(r.Intn(len(b)), r.Intn(12))
			switch r.Intn(3) {
			case 0:
				b[at] = byte(r.Intn(256) >> r.Intn(9))
			case 1:
				b = slices.Insert(b, at, byte(r.Intn(256)))
			case 2:
				b = append(slices.Delete(b, at, at+1), 0)
			}
		}
		want, e := readPiece(b)
		p, f := Get(b)
		if !p.is(want) || f != e {
			t.Fatalf("Get of %x: %v, %d, not %v, %d", b, p, f, want, e)
		}
		if f == api.OK {
			got++
			if again, _ := Put(p); !bytes.Equal(again, b) {
				t.Fatalf("what was got isn't Put's: %x", b)
			}
		}
	}
	if got < 1000 {
		t.Errorf("got: %d", got)
	}
}

// P13.1: parts of the size, the last one of what is left; one at least.
func TestSplit(t *testing.T) {
	for _, size := range []int{1, 2, 3, 24, 32, 511, 512, 513, 1024, 4095, 4096} {
		for _, length := range []int{0, 1, 2, 3, size - 1, size, size + 1, 2 * size, 31 * size, 31*size + 1, 32*size - 1, 32 * size, 1<<14 - 1, 1 << 14} {
			if length > 1<<14 || length > 32*size {
				continue
			}
			body := text(length)
			l := split(t, 9, body, size)
			var joined []byte
			for at, p := range l {
				if p.Id != 9 || p.At != at || p.Many != len(l) {
					t.Errorf("%d bytes by %d: the piece %d is %d, %d of %d", length, size, at, p.Id, p.At, p.Many)
				}
				if at < len(l)-1 && len(p.Part) != size || len(p.Part) > size || len(p.Part) == 0 && length > 0 {
					t.Errorf("%d bytes by %d: the piece %d has %d bytes", length, size, at, len(p.Part))
				}
				if _, e := Put(p); e != api.OK {
					t.Errorf("%d bytes by %d: the piece %d is none", length, size, at)
				}
				joined = append(joined, p.Part...)
			}
			if !bytes.Equal(joined, body) || len(l) == 0 {
				t.Errorf("%d bytes by %d: %d pieces, %d bytes", length, size, len(l), len(joined))
			}
		}
	}
	l := split(t, math.MaxUint32, []byte("abcde"), 2)
	want := []Piece{{math.MaxUint32, 0, 3, []byte("ab")}, {math.MaxUint32, 1, 3, []byte("cd")}, {math.MaxUint32, 2, 3, []byte("e")}}
	if !slices.EqualFunc(l, want, Piece.is) {
		t.Errorf("%v", l)
	}
	for _, body := range [][]byte{nil, {}} {
		if l := split(t, 0, body, 7); !slices.EqualFunc(l, []Piece{{Many: 1}}, Piece.is) {
			t.Errorf("of nothing: %v", l)
		}
	}
}

// P13.1, Errors: what isn't an argument comes ahead of too many pieces.
func TestWrongSplits(t *testing.T) {
	refused := func(length, size int, want api.Errno) {
		t.Helper()
		if l, e := Split(1, make([]byte, length), size); len(l) != 0 || e != want {
			t.Errorf("Split of %d bytes by %d: %d pieces, %d, not %d", length, size, len(l), e, want)
		}
	}
	for _, size := range []int{0, -1, 4097, 4098, 1 << 14, 1 << 32, math.MaxInt, math.MinInt} {
		for _, length := range []int{0, 1, 33, 1 << 14, 1<<14 + 1, 1 << 17} {
			refused(length, size, api.ErrArg)
		}
	}
	for _, length := range []int{1<<14 + 1, 1 << 15, 1 << 17} {
		for _, size := range []int{1, 512, 513, 4096} {
			refused(length, size, api.ErrArg)
		}
	}
	for _, size := range []int{1, 2, 100, 496, 511} {
		refused(32*size+1, size, api.ErrLimit)
		refused(min(33*size, 1<<14), size, api.ErrLimit)
		refused(1<<14, size, api.ErrLimit)
	}
}

// R3: what is handed in is not changed and not kept; what is handed out is new memory, of each part its own.
func TestPiecesAreNewMemory(t *testing.T) {
	body := text(10)
	l := split(t, 1, body, 3)
	fill(body, 255)
	want := split(t, 1, text(10), 3)
	for at := range l {
		if !slices.EqualFunc(l[at:], want[at:], Piece.is) {
			t.Errorf("the part %d is memory of another list", at)
		}
		fill(l[at].Part, 254)
	}
	b, _ := Put(want[0])
	p, _ := Get(b)
	fill(b, 9)
	if !p.is(want[0]) {
		t.Error("a part is its bytes' memory")
	}
	fill(p.Part, 9)
	if !want[0].is(Piece{1, 0, 4, text(3)}) {
		t.Error("a piece's bytes are its part's memory")
	}
}
