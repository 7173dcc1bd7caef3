package mesh

import (
	"fingerpost/api"
	"fingerpost/frame"
	"fingerpost/piece"
	"fingerpost/proof"
	"fingerpost/renew"
	"fingerpost/rib"
	"fingerpost/spring"
	"slices"
)

// sequence is one of a destination.
type sequence struct {
	dest       int
	epoch, seq uint32
}

// villains are all bad nodes of a world: what one is shown all know.
type villains struct {
	w       *world
	read    int // of what was seen
	joiners map[[2]int]*joiner
	nearest map[sequence]int // what honest nodes showed of honest destinations
	known   []proof.Known
	entries []frame.Entry
	records map[[2]int]renew.Signed
	wants   [api.MaxNodes][]uint32 // by each node's last hello
	springs map[[3]int]*spring.Spring
	boots   [api.MaxNodes][api.MaxNodes]uint64
	counts  [api.MaxNodes][api.MaxNodes]uint64
	last    [api.MaxNodes][api.MaxNodes][]byte // what was sent last
	bodies  uint32
	tricks  map[string]int
}

func newVillains(w *world) villains {
	v := villains{w: w, joiners: map[[2]int]*joiner{}, nearest: map[sequence]int{}, records: map[[2]int]renew.Signed{}, springs: map[[3]int]*spring.Spring{}, tricks: map[string]int{}}
	for a := range v.boots {
		for b := range v.boots {
			v.boots[a][b] = 1
		}
	}
	return v
}

// spring is a destination's epoch. Of an honest one a villain takes the root alone, which is no secret. A bad one has two faces: another epoch for some.
func (v *villains) spring(dest int, epoch uint32, face int) *spring.Spring {
	at := [3]int{dest, int(epoch), face}
	if v.springs[at] == nil {
		seed := Seed(v.w.c, dest)
		seed[0] ^= byte(face)
		v.springs[at], _ = spring.New(v.w.c.Rules.Spring, seed, dest, epoch)
	}
	return v.springs[at]
}

// face is one that a destination has.
func (v *villains) face(dest int) int {
	if v.w.Honest(dest) || v.w.r.Intn(3) > 0 {
		return 0
	}
	return 1
}

// listen learns from what bad nodes were delivered.
func (v *villains) listen() {
	for ; v.read < len(v.w.seen); v.read++ {
		l := v.w.seen[v.read]
		if !v.w.Honest(l.From) {
			continue
		}
		kind, body, ok := opened(v.w.c, v.joiners, l)
		if !ok {
			continue
		}
		switch kind {
		case frame.IsHello:
			h, _ := frame.GetHello(body)
			v.wants[l.From] = h.Wants
		case frame.IsRenewal:
			x, _ := frame.GetRenewal(body)
			v.records[[2]int{x.Record.Dest, int(x.Record.Epoch)}] = x
		case frame.IsUpdate:
			u, _ := frame.GetUpdate(body)
			for _, x := range u.Entries {
				v.shown(l.From, x)
			}
		}
	}
}

// shown learns from a claim.
func (v *villains) shown(sender int, x frame.Entry) {
	c := proof.Claim{Dest: x.Dest, Key: x.Key, Sender: sender}
	next, e := proof.Check(v.w.c.Rules.Spring, v.spring(x.Dest, x.Key.Epoch, 0).Root(), c, x.Cred)
	if e != api.OK && !v.w.Honest(x.Dest) {
		next, e = proof.Check(v.w.c.Rules.Spring, v.spring(x.Dest, x.Key.Epoch, 1).Root(), c, x.Cred)
	}
	if e != api.OK {
		v.w.Fatalf("%d told %v of %d, which isn't shown", sender, x.Key, x.Dest)
	}
	at := sequence{x.Dest, x.Key.Epoch, x.Key.Seq}
	if was, ok := v.nearest[at]; !ok || x.Key.Metric < was {
		v.nearest[at] = x.Key.Metric
	}
	v.known = lastOf(append(v.known, proof.Learn(c, next, x.Cred)), 40)
	v.entries = lastOf(append(v.entries, x), 40)
}

// lastOf are the last ones of a list.
func lastOf[T any](l []T, most int) []T {
	return l[max(0, len(l)-most):]
}

// bound holds a route by a bad node to what was shown to bad nodes ahead of it.
func (v *villains) bound(id int, x rib.Route) {
	if !v.w.Honest(x.Dest) {
		return
	}
	v.w.led++
	near, ok := v.nearest[sequence{x.Dest, x.Key.Epoch, x.Key.Seq}]
	if claim := x.Key.Metric - 1; !ok || near > claim-1 {
		v.w.Fatalf("%d took %v of %d from the bad node %d, which was shown %d, %v", id, x.Key, x.Dest, x.Next, near, ok)
	}
}

// send lets a bad node send a body to a neighbour, mostly under the next number.
func (v *villains) send(from, to, kind int, body []byte) {
	r := v.w.r
	if r.Intn(300) == 0 {
		v.boots[from][to] += uint64(1 + r.Intn(2))
		v.counts[from][to] = 0
	}
	v.counts[from][to]++
	f := frame.Frame{Boot: v.boots[from][to], Count: v.counts[from][to], Kind: kind, Body: body}
	switch r.Intn(60) {
	case 0:
		f.Count -= min(f.Count-1, uint64(r.Intn(40)))
	case 1:
		f.Boot -= min(f.Boot-1, uint64(r.Intn(2)))
	case 2:
		f.Kind = 1 + r.Intn(4)
	}
	e := v.w.Forge(from, to, f)
	if e != api.OK && e != api.ErrPeer && e != api.ErrFull {
		v.w.Fatalf("Forge: %d", e)
	}
	if e == api.OK {
		v.last[from][to] = v.w.flight[v.w.Len()-1].Bytes
	}
}

// body sends a body whole, or in pieces.
func (v *villains) body(from, to, kind int, body []byte) {
	if len(body) <= api.MaxBlob && v.w.r.Intn(6) > 0 {
		v.send(from, to, kind, body)
		return
	}
	v.bodies++
	l, _ := piece.Split(v.bodies, append([]byte{byte(kind)}, body...), max(60, len(body)/20))
	v.w.r.Shuffle(len(l), func(a, b int) { l[a], l[b] = l[b], l[a] })
	for _, p := range l {
		b, _ := piece.Put(p)
		v.send(from, to, frame.IsPiece, b)
	}
}

// act lets a bad node do something to a neighbour.
func (v *villains) act(from, to int) {
	r := v.w.r
	switch at := r.Intn(100); {
	case at < 30:
		v.greet(from, to)
	case at < 60:
		v.claims(from, to)
	case at < 85:
		v.renewal(from, to)
	case at < 92:
		b := make([]byte, r.Intn(90))
		r.Read(b)
		v.send(from, to, 1+r.Intn(4), b)
	default:
		v.raw(from, to)
	}
}

func (v *villains) greet(from, to int) {
	h := frame.Hello{Heard: 255}
	if v.w.r.Intn(20) == 0 {
		h.Heard = byte(v.w.r.Intn(256))
	}
	for range v.w.r.Intn(9) {
		h.Wants = append(h.Wants, uint32(v.w.r.Intn(6)))
	}
	v.send(from, to, frame.IsHello, frame.PutHello(h))
}

// raw sends bytes as they are: what anybody sent to a bad node, or that one itself, as it was, or turned; or none of anybody.
func (v *villains) raw(from, to int) {
	r := v.w.r
	b := make([]byte, r.Intn(50))
	r.Read(b)
	switch at := r.Intn(6); {
	case at < 2 && len(v.w.seen) > 0:
		b = slices.Clone(v.w.seen[len(v.w.seen)-1-r.Intn(min(40, len(v.w.seen)))].Bytes)
	case at < 5:
		b = slices.Clone(v.last[from][to])
	}
	if r.Intn(2) == 0 && len(b) > 0 {
		b[r.Intn(len(b))] ^= byte(1 + r.Intn(255))
	}
	if e := v.w.Inject(from, to, b); e != api.OK && e != api.ErrPeer && e != api.ErrFull {
		v.w.Fatalf("Inject: %d", e)
	}
}

// renewal sends a record: one that the neighbour wants, or another one, or a forged one.
func (v *villains) renewal(from, to int) {
	r := v.w.r
	dest := r.Intn(v.w.c.Nodes)
	epoch := uint32(r.Intn(4))
	if wants := v.wants[to]; dest < len(wants) && r.Intn(5) > 0 {
		epoch = wants[dest]
	}
	x, ok := v.records[[2]int{dest, int(epoch)}]
	if !v.w.Honest(dest) {
		// A bad node's key signs as often as it likes, unlike roots, too.
		seed := Seed(v.w.c, dest)
		x, _ = renew.Issue(v.spring(dest, epoch, v.face(dest)), seed, dest, epoch)
		ok = true
	}
	if !ok || r.Intn(10) == 0 {
		x.Record.Dest, x.Record.Epoch = dest, epoch
		x.Record.Root[r.Intn(16)] ^= byte(1 + r.Intn(255))
	}
	b, _ := frame.PutRenewal(x)
	v.body(from, to, frame.IsRenewal, b)
}

// claims sends some claims of unlike destinations, true or made up.
func (v *villains) claims(from, to int) {
	u := frame.Update{Full: v.w.r.Intn(2) == 0}
	made := map[int]frame.Entry{}
	for range 1 + v.w.r.Intn(3) {
		if x, ok := v.claim(from); ok {
			made[x.Dest] = x
		}
	}
	for dest := range v.w.c.Rules.Spring.Width {
		if x, ok := made[dest]; ok {
			u.Entries = append(u.Entries, x)
		}
	}
	b, e := frame.PutUpdate(u)
	is(v.w.T, "PutUpdate", e, api.OK)
	v.body(from, to, frame.IsUpdate, b)
}

// claim is a claim by a bad node, as near as it can show it, or nearer.
func (v *villains) claim(from int) (frame.Entry, bool) {
	r, rules := v.w.r, v.w.c.Rules.Spring
	at := r.Intn(10)
	switch {
	case at < 3:
		return v.issued(from)
	case len(v.known) == 0:
		return frame.Entry{}, false
	case at < 8:
		return v.passed(from)
	}
	k := v.known[r.Intn(len(v.known))]
	x := frame.Entry{Dest: k.Dest, Key: k.Key}
	switch r.Intn(4) {
	case 0: // nearer than what was shown, by what shows the one that is farther
		x.Key.Metric = r.Intn(k.Key.Metric)
		_, d, _ := proof.Pass(rules, k, from)
		x.Cred = d
		v.did("nearer")
	case 1: // of another sequence
		x.Key.Seq = uint32(r.Intn(1 << rules.Height))
		_, d, _ := proof.Pass(rules, k, from)
		x.Cred = d
		v.did("other")
	case 2: // what another one showed, under the own name
		x = v.entries[r.Intn(len(v.entries))]
		v.did("stolen")
	case 3: // as near as the destination itself, by a rung that is none
		x.Key.Metric = 0
		k.Key.Metric = 0
		_, d, _ := proof.Pass(rules, k, from)
		x.Cred = d
		v.did("made up")
	}
	return x, true
}

// did counts a trick.
func (v *villains) did(what string) { v.tricks[what]++ }

// issued is a claim of a bad destination, whose seed all bad ones know.
func (v *villains) issued(from int) (frame.Entry, bool) {
	r, rules := v.w.r, v.w.c.Rules.Spring
	dest := v.w.c.Bad[r.Intn(len(v.w.c.Bad))]
	c := proof.Claim{Dest: dest, Sender: from}
	c.Key = api.Key{Epoch: uint32(r.Intn(4)), Seq: uint32(r.Intn(1 << rules.Height)), Metric: r.Intn(rules.Steps)}
	d, e := proof.Issue(v.spring(dest, c.Key.Epoch, v.face(dest)), c)
	v.did("issued")
	return frame.Entry{Dest: c.Dest, Key: c.Key, Cred: d}, e == api.OK
}

// passed is a claim of what was shown, a hop farther.
func (v *villains) passed(from int) (frame.Entry, bool) {
	c, d, e := proof.Pass(v.w.c.Rules.Spring, v.known[len(v.known)-1-v.w.r.Intn(min(12, len(v.known)))], from)
	v.did("passed")
	return frame.Entry{Dest: c.Dest, Key: c.Key, Cred: d}, e == api.OK
}
