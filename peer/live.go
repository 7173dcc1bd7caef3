package peer

import (
	"fingerpost/api"
	"fingerpost/frame"
)

// Hello notes whom a neighbour hears: whether it is live from now on.
func (t *Table) Hello(from int, h frame.Hello) (up bool, e api.Errno) {
	if t == nil {
		return false, api.ErrNil
	}
	n := t.at(from)
	if n == nil {
		return false, api.ErrPeer
	}
	was := n.live
	n.live = h.Heard>>t.self&1 == 1 && t.lately(n)
	return n.live && !was, api.OK
}

// Tick lets time go on by one: who is not live any more.
func (t *Table) Tick() []int {
	if t == nil || t.now >= api.MaxTick {
		return nil
	}
	t.now++
	for _, id := range t.Ids() {
		t.all[id].toll.Tick(1)
	}
	gone := t.those(func(n *neighbour) bool { return n.live && !t.lately(n) })
	for _, id := range gone {
		t.all[id].live = false
	}
	return gone
}

// Heard is who was heard lately, as bits.
func (t *Table) Heard() uint8 {
	var bits uint8
	for _, id := range t.those(t.lately) {
		bits |= 1 << id
	}
	return bits
}

// Live are the neighbours that hear, and are heard.
func (t *Table) Live() []int {
	return t.those(func(n *neighbour) bool { return n.live })
}

// IsLive says whether a neighbour is live.
func (t *Table) IsLive(id int) bool {
	n := t.at(id)
	return n != nil && n.live
}

// Now is the time.
func (t *Table) Now() int64 {
	if t == nil {
		return 0
	}
	return t.now
}

// lately says whether a neighbour is heard lately.
func (t *Table) lately(n *neighbour) bool {
	return t.now < n.silent
}
