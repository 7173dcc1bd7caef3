package build

import (
	"bytes"
	"fingerpost/api"
	"fingerpost/frame"
	"fingerpost/piece"
)

const (
	// leastMost is the least that a body may be bounded by.
	leastMost = 16
	// pieceHead is how many bytes of a piece stand ahead of its part.
	pieceHead = 4 + 1 + 1 + 2
)

// Body is what a frame holds: its kind, and its bytes.
type Body struct {
	Kind  int
	Bytes []byte
}

// Bodies is a body as one frame's, or as pieces, if it is longer than most.
func Bodies(kind int, id uint32, b []byte, most int) ([]Body, api.Errno) {
	if !isWhole(kind) || most < leastMost || most > api.MaxBlob {
		return nil, api.ErrArg
	}
	if len(b) <= most {
		return []Body{{Kind: kind, Bytes: bytes.Clone(b)}}, api.OK
	}
	pieces, e := piece.Split(id, append([]byte{byte(kind)}, b...), most-pieceHead)
	if e != api.OK {
		return nil, e
	}
	var l []Body
	for _, p := range pieces {
		// What was split are pieces: none of them is refused.
		part, _ := piece.Put(p)
		l = append(l, Body{Kind: frame.IsPiece, Bytes: part})
	}
	return l, api.OK
}

// Whole is the kind and the body that a body of pieces was.
func Whole(b []byte) (int, []byte, api.Errno) {
	if len(b) == 0 {
		return 0, nil, api.ErrShort
	}
	kind := int(b[0])
	if !isWhole(kind) {
		return 0, nil, api.ErrForm
	}
	return kind, bytes.Clone(b[1:]), api.OK
}

// isWhole says whether a kind is of what may be cut into pieces, and isn't one itself.
func isWhole(kind int) bool {
	return kind == frame.IsHello || kind == frame.IsUpdate || kind == frame.IsRenewal
}
