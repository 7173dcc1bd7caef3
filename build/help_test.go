package build

import (
	"bytes"
	"crypto/sha256"
	"encoding/binary"
	"fingerpost/api"
	"fingerpost/frame"
	"fingerpost/proof"
	"fingerpost/rib"
	"fingerpost/spring"
	"math"
	"slices"
	"testing"
)

// rules are those of most tests.
var rules = spring.Rules{Width: 8, Steps: 5, Height: 2}

// text is so many bytes, unlike their neighbours.
func text(size int) []byte {
	b := make([]byte, size)
	for at := range b {
		b[at] = byte(at % 251)
	}
	return b
}

// some is a short sum of no meaning, another one for each number.
func some(number int) api.Sum {
	d := sha256.Sum256([]byte{'?', byte(number), byte(number >> 8)})
	return api.Sum(d[:16])
}

func sums(first, many int) []api.Sum {
	var l []api.Sum
	for n := range many {
		l = append(l, some(first+n))
	}
	return l
}

func key(epoch, seq uint32, metric int) api.Key {
	return api.Key{Epoch: epoch, Seq: seq, Metric: metric}
}

// cred is a credential of no meaning, another one for each number.
func cred(number int) proof.Cred {
	return proof.Cred{Leaf: some(number), Way: sums(number+1, 3), Path: sums(number+4, 2)}
}

// route is one that is valid, and of which a key is known, and sums of no meaning.
func route(dest int, k api.Key) rib.Route {
	known := proof.Known{Dest: dest, Key: k, Element: some(dest), Path: sums(dest, 2)}
	return rib.Route{Dest: dest, Key: k, Next: (dest + 1) % 8, Valid: true, Since: 5, Known: known}
}

// entry is a route's by a node, which it has.
func entry(t *testing.T, r spring.Rules, self int, x rib.Route) frame.Entry {
	t.Helper()
	c, d, e := proof.Pass(r, x.Known, self)
	if e != api.OK {
		t.Fatalf("Pass of %v by %d: %d", x.Known, self, e)
	}
	return frame.Entry{Dest: c.Dest, Key: c.Key, Cred: d}
}

func sameCred(a, b proof.Cred) bool {
	return a.Leaf == b.Leaf && slices.Equal(a.Way, b.Way) && slices.Equal(a.Path, b.Path)
}

func sameEntry(a, b frame.Entry) bool {
	return a.Dest == b.Dest && a.Key == b.Key && sameCred(a.Cred, b.Cred)
}

func sameBody(a, b Body) bool {
	return a.Kind == b.Kind && bytes.Equal(a.Bytes, b.Bytes)
}

// tells holds Entries to its answer.
func tells(t *testing.T, what string, got []frame.Entry, want ...frame.Entry) {
	t.Helper()
	if !slices.EqualFunc(got, want, sameEntry) {
		t.Errorf("%s: %v, not %v", what, got, want)
	}
}

// sized is an entry of a destination with lists of so many sums: of 25 bytes, and 16 for each.
func sized(dest, way, path int) frame.Entry {
	return frame.Entry{Dest: dest, Key: key(1, 2, dest), Cred: proof.Cred{Leaf: some(dest), Way: sums(10*dest, way), Path: sums(20*dest, path)}}
}

// entrySize is how many bytes an entry has.
func entrySize(x frame.Entry) int {
	return 1 + 4 + 1 + 1 + 16 + 1 + 16*len(x.Cred.Way) + 1 + 16*len(x.Cred.Path)
}

// updateSize is how many bytes an update of entries has; none, if it may not be.
func updateSize(l []frame.Entry) int {
	if len(l) > 8 {
		return 0
	}
	size, last := 2, -1
	for _, x := range l {
		k := x.Key
		if x.Dest <= last || x.Dest > 7 || len(x.Cred.Way) > 3 || len(x.Cred.Path) > 6 ||
			k.Epoch > 1<<16 || k.Seq > 63 || k.Metric < 0 || k.Metric > 15 {
			return 0
		}
		last = x.Dest
		size += entrySize(x)
	}
	return size
}

// wrongEntries may not be in any update, each by one thing.
func wrongEntries() []frame.Entry {
	var l []frame.Entry
	for _, change := range []func(x *frame.Entry){
		func(x *frame.Entry) { x.Dest = -1 },
		func(x *frame.Entry) { x.Dest = 8 },
		func(x *frame.Entry) { x.Dest = math.MinInt },
		func(x *frame.Entry) { x.Dest = math.MaxInt },
		func(x *frame.Entry) { x.Key.Epoch = 1<<16 + 1 },
		func(x *frame.Entry) { x.Key.Seq = 64 },
		func(x *frame.Entry) { x.Key.Metric = 16 },
		func(x *frame.Entry) { x.Key.Metric = -1 },
		func(x *frame.Entry) { x.Cred.Way = sums(1, 4) },
		func(x *frame.Entry) { x.Cred.Path = sums(1, 7) },
	} {
		x := sized(3, 1, 1)
		change(&x)
		l = append(l, x)
	}
	return l
}

// manies are how many entries updates have, which must be ones, all of them full, or none.
func manies(t *testing.T, what string, updates [][]byte, full bool) []int {
	t.Helper()
	var l []int
	for _, b := range updates {
		u, e := frame.GetUpdate(b)
		if e != api.OK || u.Full != full {
			t.Fatalf("%s: GetUpdate: %v, %d", what, u, e)
		}
		l = append(l, len(u.Entries))
	}
	return l
}

// cut holds Updates to how many entries stand in each.
func cut(t *testing.T, what string, l []frame.Entry, most int, want ...int) {
	t.Helper()
	for _, full := range []bool{true, false} {
		if got := manies(t, what, Updates(l, full, most), full); !slices.Equal(got, want) {
			t.Errorf("%s, %d: %v, not %v", what, most, got, want)
		}
	}
}

// pieceBytes are what the words of layer 13 tell.
func pieceBytes(id uint32, at, many int, part []byte) []byte {
	b := binary.BigEndian.AppendUint32(nil, id)
	b = append(b, byte(at), byte(many))
	return append(binary.BigEndian.AppendUint16(b, uint16(len(part))), part...)
}

// fill overwrites a list, its spare room too.
func fill[T any](l []T, with T) {
	l = l[:cap(l)]
	for at := range l {
		l[at] = with
	}
}
