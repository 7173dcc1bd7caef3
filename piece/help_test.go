package piece

import (
	"bytes"
	"encoding/binary"
	"fingerpost/api"
	"math"
	"testing"
)

// text is so many bytes, unlike their neighbours.
func text(size int) []byte {
	b := make([]byte, size)
	for at := range b {
		b[at] = byte(at % 251)
	}
	return b
}

func (p Piece) is(q Piece) bool {
	return p.Id == q.Id && p.At == q.At && p.Many == q.Many && bytes.Equal(p.Part, q.Part)
}

// rightPieces have the least and the greatest numbers, and parts of all lengths that count.
func rightPieces() []Piece {
	var l []Piece
	for _, id := range []uint32{0, 1, 255, 256, 0x01020304, math.MaxUint32} {
		for _, many := range []int{1, 2, 31, 32} {
			for _, at := range []int{0, many / 2, many - 1} {
				l = append(l, Piece{id, at, many, text(int(id % 7))})
			}
		}
	}
	for _, size := range []int{0, 1, 2, 255, 256, 257, 4095, 4096} {
		l = append(l, Piece{7, 1, 3, text(size)})
	}
	return append(l, Piece{Many: 1})
}

// wrongPieces are none, each by one thing; those that bytes may tell come first, and there are so many of them.
func wrongPieces() ([]Piece, int) {
	var l []Piece
	of := func(at, many int) {
		l = append(l, Piece{1, at, many, []byte{2, 3}}, Piece{0, at, many, nil})
	}
	of(0, 0)
	of(1, 0)
	for _, n := range []int{1, 2, 31, 32} {
		of(n, n)
		of(n+1, n)
		of(255, n)
	}
	for _, n := range []int{33, 34, 64, 128, 255} {
		of(0, n)
		of(1, n)
		of(n-1, n)
		of(n, n)
	}
	told := len(l)
	for _, n := range []int{-1, -2, 256, 257, -255, 1 << 32, math.MaxInt, math.MinInt} {
		of(n, 2)
		of(0, n)
		of(1, n)
		of(n, n)
		of(n-1, n)
	}
	of(math.MinInt, 32)
	for _, size := range []int{4097, 4098, 8192, 1 << 14, 1<<14 + 1, 1 << 16, 1<<16 + 1} {
		l = append(l, Piece{1, 0, 2, make([]byte, size)}, Piece{1, 0, 1, make([]byte, size)})
	}
	return l, told
}

// pieceBytes are what the chapter's words tell, of a piece or of none, of the lowest bytes of its numbers.
func pieceBytes(p Piece) []byte {
	b := binary.BigEndian.AppendUint32(nil, p.Id)
	b = append(b, byte(p.At), byte(p.Many))
	b = binary.BigEndian.AppendUint16(b, uint16(len(p.Part)))
	return append(b, p.Part...)
}

// readPiece takes a piece off bytes as the chapter's words tell it.
func readPiece(b []byte) (Piece, api.Errno) {
	if len(b) < 8 {
		return Piece{}, api.ErrShort
	}
	size := int(b[6])*256 + int(b[7])
	switch {
	case size > 4096:
		return Piece{}, api.ErrLimit
	case len(b) < 8+size:
		return Piece{}, api.ErrShort
	case len(b) > 8+size, b[5] < 1, b[5] > 32, b[4] >= b[5]:
		return Piece{}, api.ErrForm
	}
	return Piece{binary.BigEndian.Uint32(b), int(b[4]), int(b[5]), b[8:]}, api.OK
}

func split(t *testing.T, id uint32, body []byte, size int) []Piece {
	t.Helper()
	l, e := Split(id, body, size)
	if e != api.OK {
		t.Fatalf("Split of %d bytes by %d: %d", len(body), size, e)
	}
	return l
}

// takes holds Take to an answer without a body.
func takes(t *testing.T, j *Joiner, p Piece, want api.Errno) {
	t.Helper()
	if body, done, e := j.Take(p); len(body) != 0 || done || e != want {
		t.Errorf("Take of %d, %d of %d: %x, %v, %d, not %d", p.Id, p.At, p.Many, body, done, e, want)
	}
}

// ends holds Take to the answer of a whole body.
func ends(t *testing.T, j *Joiner, p Piece, want []byte) {
	t.Helper()
	if body, done, e := j.Take(p); !bytes.Equal(body, want) || !done || e != api.OK {
		t.Errorf("Take of %d, %d of %d: %x, %v, %d, not %x", p.Id, p.At, p.Many, body, done, e, want)
	}
}

func waits(t *testing.T, j *Joiner, have, many int) {
	t.Helper()
	if h, m := j.Waits(); h != have || m != many {
		t.Errorf("Waits: %d, %d, not %d, %d", h, m, have, many)
	}
}

// fill overwrites a list, its spare room too.
func fill(b []byte, with byte) {
	b = b[:cap(b)]
	for at := range b {
		b[at] = with
	}
}
