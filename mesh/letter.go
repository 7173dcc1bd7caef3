package mesh

import (
	"bytes"
	"fingerpost/api"
	"fingerpost/frame"
	"slices"
)

// Letter is a frame that is on its way.
type Letter struct {
	From  int
	To    int
	Bytes []byte
}

// Deliver lets a frame arrive.
func (m *Mesh) Deliver(i int) api.Errno {
	l, e := m.letter(i)
	if e != api.OK {
		return e
	}
	// Whatever comes of it: a frame that couldn't arrive doesn't wait for a better day.
	m.drop(i)
	if !m.Linked(l.From, l.To) {
		return api.ErrPeer
	}
	n := m.nodes[l.To]
	switch {
	case n.bad:
		m.seen = append(m.seen, l)
		return api.OK
	case n.router == nil:
		return api.ErrState
	}
	return n.router.Take(l.Bytes)
}

// Lose lets a frame be lost.
func (m *Mesh) Lose(i int) api.Errno {
	_, e := m.letter(i)
	if e == api.OK {
		m.drop(i)
	}
	return e
}

// Twice lets a frame be there once more.
func (m *Mesh) Twice(i int) api.Errno {
	l, e := m.letter(i)
	if e != api.OK {
		return e
	}
	return m.fly(l)
}

// Len is how many frames are on their way.
func (m *Mesh) Len() int {
	if m == nil {
		return 0
	}
	return len(m.flight)
}

// Look is a frame that is on its way.
func (m *Mesh) Look(i int) (Letter, api.Errno) {
	l, e := m.letter(i)
	return l.copied(), e
}

// Seen are the frames that arrived at nodes that aren't to be trusted.
func (m *Mesh) Seen() []Letter {
	if m == nil {
		return nil
	}
	var all []Letter
	for _, l := range m.seen {
		all = append(all, l.copied())
	}
	return all
}

// Inject lets a node that isn't to be trusted send any bytes to a neighbour.
func (m *Mesh) Inject(from, to int, b []byte) api.Errno {
	if e := m.sendable(from, to); e != api.OK {
		return e
	}
	if len(b) > api.MaxBody {
		return api.ErrArg
	}
	return m.setOut(Letter{From: from, To: to, Bytes: bytes.Clone(b)})
}

// Forge lets it send a frame with a right tag, of its own key.
func (m *Mesh) Forge(from, to int, f frame.Frame) api.Errno {
	if e := m.sendable(from, to); e != api.OK {
		return e
	}
	f.From, f.To = from, to
	b, e := frame.Seal(Key(m.config, from, to), f)
	if e != api.OK {
		return e
	}
	return m.setOut(Letter{From: from, To: to, Bytes: b})
}

// sendable says whether a node may send what it likes to another one.
func (m *Mesh) sendable(from, to int) api.Errno {
	switch {
	case m == nil:
		return api.ErrNil
	case !m.has(from) || !m.has(to) || !m.nodes[from].bad:
		return api.ErrArg
	}
	return api.OK
}

// setOut lets a frame be on its way, by a link.
func (m *Mesh) setOut(l Letter) api.Errno {
	if !m.Linked(l.From, l.To) {
		return api.ErrPeer
	}
	return m.fly(l)
}

// fly lets a frame be on its way as the last one, if there is room. What bytes two letters share nobody changes.
func (m *Mesh) fly(l Letter) api.Errno {
	if len(m.flight) >= api.MaxFlight {
		return api.ErrFull
	}
	m.flight = append(m.flight, l)
	return api.OK
}

// letter is a frame that is on its way, as it is kept.
func (m *Mesh) letter(i int) (Letter, api.Errno) {
	switch {
	case m == nil:
		return Letter{}, api.ErrNil
	case i < 0 || i >= len(m.flight):
		return Letter{}, api.ErrArg
	}
	return m.flight[i], api.OK
}

// drop takes a frame out.
func (m *Mesh) drop(i int) {
	m.flight = slices.Delete(m.flight, i, i+1)
}

// copied is a letter that shares no memory with another one.
func (l Letter) copied() Letter {
	l.Bytes = bytes.Clone(l.Bytes)
	return l
}
