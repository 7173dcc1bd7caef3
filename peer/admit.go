package peer

import (
	"fingerpost/api"
	"fingerpost/frame"
)

// Seal is a frame to a neighbour, with the next number.
func (t *Table) Seal(to, kind int, body []byte) ([]byte, api.Errno) {
	if t == nil {
		return nil, api.ErrNil
	}
	n := t.at(to)
	if n == nil {
		return nil, api.ErrPeer
	}
	// Looked at ahead of the counter, as what is refused must take no number.
	if kind < frame.IsHello || kind > frame.IsPiece || len(body) > api.MaxBlob {
		return nil, api.ErrArg
	}
	boot, count, e := t.counter.Next()
	if e != api.OK {
		return nil, e
	}
	return frame.Seal(n.key, frame.Frame{From: t.self, To: to, Boot: boot, Count: count, Kind: kind, Body: body})
}

// Admit is a frame that came, if it is a neighbour's, and may be paid for, and is new.
func (t *Table) Admit(b []byte) (frame.Frame, api.Errno) {
	if t == nil {
		return frame.Frame{}, api.ErrNil
	}
	f, e := frame.Peek(b)
	if e != api.OK {
		return frame.Frame{}, e
	}
	n := t.at(f.From)
	if n == nil || f.To != t.self {
		return frame.Frame{}, api.ErrPeer
	}
	if e := n.admit(f, b); e != api.OK {
		return frame.Frame{}, e
	}
	n.silent = t.now + int64(t.rules.Dead)
	return f, api.OK
}

// admit lets the neighbour pay for a frame, ahead of all that costs, and takes its number only if the tag is right.
func (n *neighbour) admit(f frame.Frame, b []byte) api.Errno {
	if e := n.toll.Frame(frame.Cost(len(f.Body))); e != api.OK {
		return e
	}
	if _, e := frame.Open(n.key, b); e != api.OK {
		return e
	}
	return n.window.Take(f.Boot, f.Count)
}
