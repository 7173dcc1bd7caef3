package vow

import (
	"bytes"
	"encoding/binary"
	"fingerpost/api"
	"fingerpost/diary"
	"fingerpost/renew"
	"fingerpost/slate"
	"math"
	"math/rand"
	"slices"
	"testing"
)

func device(t *testing.T, sectors int) *slate.Slate {
	t.Helper()
	s, e := slate.New(sectors)
	if e != api.OK {
		t.Fatalf("slate.New(%d): %d", sectors, e)
	}
	return s
}

func opens(t *testing.T, s *slate.Slate) *Vow {
	t.Helper()
	v, e := Open(s)
	if v == nil || e != api.OK {
		t.Fatalf("Open: %v, %d", v, e)
	}
	return v
}

// errs holds a call's error to what it must be.
func errs(t *testing.T, what string, got, want api.Errno) {
	t.Helper()
	if got != want {
		t.Fatalf("%s: %d, not %d", what, got, want)
	}
}

// some is a signed record of no meaning.
func some(dest int, epoch uint32) renew.Signed {
	x := renew.Signed{Record: renew.Record{Dest: dest, Epoch: epoch}}
	for at := range x.Record.Root {
		x.Record.Root[at], x.Record.Next[at] = byte(dest+at+1), byte(int(epoch)+at+100)
	}
	for chain := range x.Sig {
		for at := range x.Sig[chain] {
			x.Sig[chain][at] = byte(dest*7 + int(epoch)*3 + chain*16 + at)
		}
	}
	return x
}

// laid is a record of a kind and numbers, as the chapter's words tell it.
func laid(kind byte, numbers ...uint64) []byte {
	b := []byte{kind}
	for _, n := range numbers {
		b = binary.BigEndian.AppendUint64(b, n)
	}
	return b
}

func signed(x renew.Signed) []byte {
	b := binary.BigEndian.AppendUint32([]byte{5, byte(x.Record.Dest)}, x.Record.Epoch)
	b = append(append(b, x.Record.Root[:]...), x.Record.Next[:]...)
	for _, s := range x.Sig {
		b = append(b, s[:]...)
	}
	return b
}

// tells holds a device to the records that it tells, and to the generation that comes next.
func tells(t *testing.T, what string, s *slate.Slate, want [][]byte, next uint32) {
	t.Helper()
	l, gen, e := diary.Load(s)
	if !slices.EqualFunc(l, want, bytes.Equal) || gen != next || e != api.OK {
		t.Fatalf("%s: the device tells %d records, %d, %d, not %d, %d: %x, not %x", what, len(l), gen, e, len(want), next, l, want)
	}
}

// better says whether a is the better key.
func better(a, b api.Key) bool {
	if a.Epoch != b.Epoch {
		return a.Epoch > b.Epoch
	}
	if a.Seq != b.Seq {
		return a.Seq > b.Seq
	}
	return a.Metric < b.Metric
}

func right(k api.Key) bool {
	return k.Epoch <= 65536 && k.Seq <= 63 && k.Metric >= 0 && k.Metric <= 15
}

// model is what a vow has by the chapter's words.
type model struct {
	boot    uint64
	reserve *api.Key
	index   uint32
	floors  map[int]api.Key
	anchors map[int][]renew.Signed
}

func none() *model {
	return &model{floors: map[int]api.Key{}, anchors: map[int][]renew.Signed{}}
}

func (m *model) snapshot() [][]byte {
	l := [][]byte{laid(1, m.boot)}
	if m.reserve != nil {
		l = append(l, laid(2, uint64(m.reserve.Epoch), uint64(m.reserve.Seq), 0))
	}
	if m.index != 0 {
		l = append(l, laid(3, uint64(m.index)))
	}
	for dest := range 8 {
		if k, ok := m.floors[dest]; ok {
			l = append(l, laid(4, uint64(dest), uint64(k.Epoch), uint64(k.Seq), uint64(k.Metric)))
		}
	}
	for dest := range 8 {
		for _, x := range m.anchors[dest] {
			l = append(l, signed(x))
		}
	}
	return l
}

// is holds a vow to what it has.
func (m *model) is(t *testing.T, what string, v *Vow) {
	t.Helper()
	if v.Boot() != m.boot || v.Index() != m.index {
		t.Fatalf("%s: Boot: %d, Index: %d, not %d, %d", what, v.Boot(), v.Index(), m.boot, m.index)
	}
	var reserve api.Key
	if m.reserve != nil {
		reserve = *m.reserve
	}
	if k, ok := v.Reserved(); k != reserve || ok != (m.reserve != nil) {
		t.Fatalf("%s: Reserved: %v, %v, not %v", what, k, ok, m.reserve)
	}
	for _, dest := range []int{0, 1, 2, 3, 4, 5, 6, 7, 8, 256, -1, math.MaxInt, math.MinInt} {
		want, has := m.floors[dest]
		if k, ok := v.Floor(dest); k != want || ok != has {
			t.Fatalf("%s: Floor(%d): %v, %v, not %v, %v", what, dest, k, ok, want, has)
		}
		if l := v.Anchors(dest); !slices.Equal(l, m.anchors[dest]) {
			t.Fatalf("%s: Anchors(%d): %d, not %d", what, dest, len(l), len(m.anchors[dest]))
		}
	}
}

// ask is a call that turns something.
type ask struct {
	call  int // 0 to 3: Reserve, Spend, Raise, Anchor
	key   api.Key
	index uint32
	dest  int
	x     renew.Signed
}

func (a ask) of(v *Vow) api.Errno {
	switch a.call {
	case 0:
		return v.Reserve(a.key)
	case 1:
		return v.Spend(a.index)
	case 2:
		return v.Raise(a.dest, a.key)
	}
	return v.Anchor(a.x)
}

// turn is what is kept of a call, none if nothing is, or its error.
func (m *model) turn(a ask) ([]byte, api.Errno) {
	switch k := a.key; a.call {
	case 0:
		k.Metric = 0
		switch {
		case !right(k):
			return nil, api.ErrArg
		case m.reserve != nil && !better(k, *m.reserve):
			return nil, api.OK
		}
		m.reserve = &k
		return laid(2, uint64(k.Epoch), uint64(k.Seq), 0), api.OK
	case 1:
		switch {
		case a.index > 65537:
			return nil, api.ErrArg
		case a.index < m.index:
			return nil, api.ErrSpent
		}
		m.index = a.index + 1
		return laid(3, uint64(m.index)), api.OK
	case 2:
		floor, ok := m.floors[a.dest]
		switch {
		case ok && better(floor, k):
			return nil, api.ErrOld
		case a.dest < 0 || a.dest > 7 || !right(k):
			return nil, api.ErrArg
		case ok && k == floor:
			return nil, api.OK
		}
		m.floors[a.dest] = k
		return laid(4, uint64(a.dest), uint64(k.Epoch), uint64(k.Seq), uint64(k.Metric)), api.OK
	}
	r := a.x.Record
	l := m.anchors[r.Dest]
	switch {
	case r.Dest < 0 || r.Dest > 7 || r.Epoch > 65536:
		return nil, api.ErrArg
	case len(l) > 0 && l[len(l)-1].Record.Epoch+1 != r.Epoch:
		return nil, api.ErrState
	}
	m.anchors[r.Dest] = append(l, a.x)
	return signed(a.x), api.OK
}

// one picks one of some.
func one[T any](r *rand.Rand, l ...T) T {
	return l[r.Intn(len(l))]
}

// asks is a call, a wrong one now and then; what it asks for is mostly no lower than what the model has, and not much higher.
func (m *model) asks(r *rand.Rand) ask {
	a := ask{call: r.Intn(4), dest: r.Intn(8), index: m.index + uint32(r.Intn(3)) - uint32(r.Intn(2))}
	a.key = m.floors[a.dest]
	if a.call == 0 && m.reserve != nil {
		a.key = *m.reserve
	}
	a.key.Epoch += uint32(r.Intn(8) / 7)
	a.key.Seq += uint32(r.Intn(4) / 3)
	a.key.Metric += r.Intn(4) - 1
	if r.Intn(6) == 0 {
		a.key.Metric = r.Intn(16)
	}
	epoch := uint32(one(r, 0, 1, 7))
	if l := m.anchors[a.dest]; len(l) > 0 {
		epoch = l[len(l)-1].Record.Epoch + 1
	}
	if r.Intn(8) == 0 {
		epoch += uint32(r.Intn(3) - 1)
	}
	a.x = some(a.dest, epoch)
	a.x.Sig[r.Intn(68)][r.Intn(16)] = byte(r.Intn(256))
	if r.Intn(6) > 0 {
		return a
	}
	switch r.Intn(5) {
	case 0:
		a.dest = one(r, -1, 8, 256, math.MaxInt, math.MinInt)
		a.x.Record.Dest = a.dest
	case 1:
		a.key.Epoch = one[uint32](r, 65537, math.MaxUint32)
		a.x.Record.Epoch = a.key.Epoch
	case 2:
		a.key.Seq = one[uint32](r, 64, math.MaxUint32)
	case 3:
		a.key.Metric = one(r, -1, 16, math.MaxInt, math.MinInt)
	case 4:
		a.index = one[uint32](r, 0, 65538, math.MaxUint32)
	}
	return a
}
