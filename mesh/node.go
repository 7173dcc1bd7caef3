package mesh

import (
	"fingerpost/api"
	"fingerpost/fib"
	"fingerpost/router"
)

// Tick lets a node's time go on by one.
func (m *Mesh) Tick(id int) api.Errno {
	n, e := m.running(id)
	if e != api.OK {
		return e
	}
	outs, e := n.router.Tick()
	for _, o := range outs {
		// A frame that is lost as it sets out is no error of the tick, and keeps no other one from setting out.
		m.setOut(Letter{From: id, To: o.To, Bytes: o.Bytes})
	}
	return e
}

// Crash lets a node's power go.
func (m *Mesh) Crash(id, writes, bytes int) api.Errno {
	n, e := m.running(id)
	if e != api.OK {
		return e
	}
	n.router = nil
	return n.device.Crash(writes, bytes)
}

// Start lets a node run again.
func (m *Mesh) Start(id int) api.Errno {
	n, e := m.honest(id)
	if e != api.OK {
		return e
	}
	if n.router != nil {
		return api.ErrState
	}
	return m.run(id)
}

// Fuse lets a node's device do no more than so many steps.
func (m *Mesh) Fuse(id, steps int) api.Errno {
	n, e := m.running(id)
	if e != api.OK {
		return e
	}
	return n.device.Fuse(steps)
}

// Router is an honest node's router that runs.
func (m *Mesh) Router(id int) *router.Router {
	if !m.has(id) {
		return nil
	}
	return m.nodes[id].router
}

// Honest says whether a node is to be trusted.
func (m *Mesh) Honest(id int) bool {
	return m.has(id) && !m.nodes[id].bad
}

// Fibs are all nodes' tables.
func (m *Mesh) Fibs() [][]fib.Hop {
	if m == nil {
		return nil
	}
	var tables [][]fib.Hop
	for _, n := range m.nodes {
		// Of no router there are no hops.
		tables = append(tables, n.router.Fib())
	}
	return tables
}

// run makes a node's router, as its device tells it.
func (m *Mesh) run(id int) api.Errno {
	n := m.nodes[id]
	r, e := router.New(setup(m.config, id, m.keys), n.device)
	n.router = r
	return e
}

// honest is a node that is to be trusted.
func (m *Mesh) honest(id int) (*node, api.Errno) {
	switch {
	case m == nil:
		return nil, api.ErrNil
	case !m.has(id):
		return nil, api.ErrArg
	case m.nodes[id].bad:
		return nil, api.ErrPeer
	}
	return m.nodes[id], api.OK
}

// running is an honest node whose router runs, be it dead or not.
func (m *Mesh) running(id int) (*node, api.Errno) {
	n, e := m.honest(id)
	if e == api.OK && n.router == nil {
		return nil, api.ErrState
	}
	return n, e
}
