package peer

import (
	"bytes"
	"fingerpost/api"
	"fingerpost/frame"
	"fingerpost/toll"
	"slices"
	"testing"
)

// wide are rules under which nothing is too dear.
func wide() Rules {
	return Rules{Dead: 3, Window: 8, Rates: toll.Rates{Frames: 1000, Blocks: 100000}}
}

func made(t *testing.T, self int, boot uint64, r Rules) *Table {
	t.Helper()
	x, e := New(self, boot, r)
	if x == nil || e != api.OK {
		t.Fatalf("New(%d, %d, %v): %v, %d", self, boot, r, x, e)
	}
	return x
}

// with is a table with neighbours, each with the key of the two.
func with(t *testing.T, self int, boot uint64, r Rules, ids ...int) *Table {
	t.Helper()
	x := made(t, self, boot, r)
	for _, id := range ids {
		is(t, "Add", x.Add(id, keyOf(self, id)), api.OK)
	}
	return x
}

// keyOf is the key of two nodes, the same one for both.
func keyOf(a, b int) api.Digest {
	return api.Digest{byte(min(a, b)), byte(max(a, b)), 31: 9}
}

// text is so many bytes, unlike their neighbours.
func text(size int) []byte {
	b := make([]byte, size)
	for at := range b {
		b[at] = byte(at % 251)
	}
	return b
}

func is(t *testing.T, what string, e, want api.Errno) {
	t.Helper()
	if e != want {
		t.Errorf("%s: %d, not %d", what, e, want)
	}
}

// seal is what a table seals, which must be the frame with those numbers.
func seal(t *testing.T, x *Table, to, kind int, body []byte, from int, boot, count uint64) []byte {
	t.Helper()
	b, e := x.Seal(to, kind, body)
	is(t, "Seal", e, api.OK)
	want, e := frame.Seal(keyOf(from, to), frame.Frame{From: from, To: to, Boot: boot, Count: count, Kind: kind, Body: body})
	if e != api.OK || !bytes.Equal(b, want) {
		t.Errorf("Seal(%d, %d, %x): %x, not %x", to, kind, body, b, want)
	}
	return b
}

// sealed is a frame from another node, whatever that one's table would seal.
func sealed(t *testing.T, key api.Digest, from, to int, boot, count uint64, body []byte) []byte {
	t.Helper()
	b, e := frame.Seal(key, frame.Frame{From: from, To: to, Boot: boot, Count: count, Kind: frame.IsPiece, Body: body})
	is(t, "frame.Seal", e, api.OK)
	return b
}

func same(f, g frame.Frame) bool {
	return f.From == g.From && f.To == g.To && f.Boot == g.Boot && f.Count == g.Count && f.Kind == g.Kind && bytes.Equal(f.Body, g.Body)
}

// admits holds a table to admitting a frame, as it is.
func admits(t *testing.T, what string, x *Table, b []byte) frame.Frame {
	t.Helper()
	f, e := x.Admit(b)
	is(t, what, e, api.OK)
	if want, _ := frame.Peek(b); !same(f, want) {
		t.Errorf("%s: %v, not %v", what, f, want)
	}
	return f
}

func refuses(t *testing.T, what string, x *Table, b []byte, want api.Errno) {
	t.Helper()
	f, e := x.Admit(b)
	is(t, what, e, want)
	if !same(f, frame.Frame{}) {
		t.Errorf("%s: with an error %v", what, f)
	}
}

// left holds a neighbour's toll to what is left.
func left(t *testing.T, what string, x *Table, id, frames, blocks int) {
	t.Helper()
	if f, b := x.Toll(id).Left(); f != frames || b != blocks {
		t.Errorf("%s: %d, %d are left, not %d, %d", what, f, b, frames, blocks)
	}
}

func hello(t *testing.T, what string, x *Table, from int, heard uint8, up bool) {
	t.Helper()
	got, e := x.Hello(from, frame.Hello{Heard: heard})
	is(t, what, e, api.OK)
	if got != up {
		t.Errorf("%s: up %v", what, got)
	}
}

func ticks(t *testing.T, what string, x *Table, gone ...int) {
	t.Helper()
	if l := x.Tick(); !slices.Equal(l, gone) {
		t.Errorf("%s: gone are %v, not %v", what, l, gone)
	}
}

// tells holds a table to whom it tells as heard lately, and as live.
func tells(t *testing.T, what string, x *Table, heard uint8, live ...int) {
	t.Helper()
	if h := x.Heard(); h != heard {
		t.Errorf("%s: heard %b, not %b", what, h, heard)
	}
	if l := x.Live(); !slices.Equal(l, live) {
		t.Errorf("%s: live are %v, not %v", what, l, live)
	}
	for id := -2; id < 11; id++ {
		if x.IsLive(id) != slices.Contains(live, id) {
			t.Errorf("%s: IsLive(%d): %v", what, id, x.IsLive(id))
		}
	}
}
