package field

import (
	"bytes"
	"fingerpost/api"
	"math/rand"
	"slices"
	"testing"
)

// thing is a field: its kind is what lays it.
type thing struct {
	kind int
	n    uint64
	sums []api.Sum
	blob []byte
}

const kinds = 7

func someThing(r *rand.Rand) thing {
	x := thing{kind: r.Intn(kinds)}
	switch x.kind {
	case 0, 1, 2, 3:
		x.n = r.Uint64() >> (64 - 8<<x.kind)
	case 4:
		x.sums = someSums(r, 1)
	case 5:
		x.sums = someSums(r, r.Intn(256))
	case 6:
		x.blob = make([]byte, r.Intn(api.MaxBlob+1)>>r.Intn(12))
		r.Read(x.blob)
	}
	return x
}

func someSums(r *rand.Rand, many int) []api.Sum {
	l := make([]api.Sum, many)
	for at := range l {
		r.Read(l[at][:])
	}
	return l
}

func (x thing) lay(o *Out) {
	switch x.kind {
	case 0:
		o.U8(x.n)
	case 1:
		o.U16(x.n)
	case 2:
		o.U32(x.n)
	case 3:
		o.U64(x.n)
	case 4:
		o.Sum(x.sums[0])
	case 5:
		o.Sums(x.sums)
	case 6:
		o.Blob(x.blob)
	}
}

// take takes a field of this kind; of lists at most so much.
func (x thing) take(i *In, most int) thing {
	got := thing{kind: x.kind}
	switch x.kind {
	case 0:
		got.n = i.U8()
	case 1:
		got.n = i.U16()
	case 2:
		got.n = i.U32()
	case 3:
		got.n = i.U64()
	case 4:
		got.sums = []api.Sum{i.Sum()}
	case 5:
		got.sums = i.Sums(most)
	case 6:
		got.blob = i.Blob(most)
	}
	return got
}

func (x thing) is(y thing) bool {
	return x.kind == y.kind && x.n == y.n && slices.Equal(x.sums, y.sums) && bytes.Equal(x.blob, y.blob)
}

func (x thing) many() int {
	return max(len(x.sums), len(x.blob))
}

// P3.3: what was laid is taken as it was; with a byte more or less it isn't at its end.
func TestRound(t *testing.T) {
	r := rand.New(rand.NewSource(3))
	for round := range 500 {
		var all []thing
		o := Lay()
		for range 1 + r.Intn(8) {
			x := someThing(r)
			x.lay(o)
			all = append(all, x)
		}
		b, e := o.Bytes()
		if e != api.OK {
			t.Fatalf("round %d: Bytes: %d", round, e)
		}
		for _, y := range []struct {
			b    []byte
			want api.Errno
		}{{b, api.OK}, {append(bytes.Clone(b), 0), api.ErrForm}, {b[:len(b)-1], api.ErrShort}} {
			i := Take(y.b)
			for at, x := range all {
				got := x.take(i, x.many())
				if !x.is(got) && (y.want != api.ErrShort || at < len(all)-1) {
					t.Fatalf("round %d: %v was laid, %v taken", round, x, got)
				}
			}
			if e := i.End(); e != y.want {
				t.Fatalf("round %d: End: %d, not %d", round, e, y.want)
			}
		}
	}
}

// model takes fields as the chapter's words tell it, byte by byte, from a place of bytes that stay whole.
type model struct {
	b   []byte
	at  int
	err api.Errno
}

func (m *model) bytes(many int) []byte {
	if m.err == api.OK && m.at+many > len(m.b) {
		m.err = api.ErrShort
	}
	if m.err != api.OK {
		return make([]byte, many)
	}
	m.at += many
	return m.b[m.at-many : m.at]
}

func (m *model) number(size int) uint64 {
	var n uint64
	for _, b := range m.bytes(size) {
		n = n*256 + uint64(b)
	}
	return n
}

func (m *model) limited(size, most int) int {
	n := int(m.number(size))
	if m.err == api.OK && n > max(0, most) {
		m.err = api.ErrLimit
	}
	return n
}

func (m *model) take(kind, most int) thing {
	x := thing{kind: kind}
	switch kind {
	case 0, 1, 2, 3:
		x.n = m.number(1 << kind)
	case 4:
		x.sums = []api.Sum{api.Sum(m.bytes(16))}
	case 5:
		n := m.limited(1, most)
		for range n {
			x.sums = append(x.sums, api.Sum(m.bytes(16)))
		}
	case 6:
		x.blob = m.bytes(m.limited(2, min(most, api.MaxBlob)))
	}
	if m.err != api.OK {
		x = thing{kind: kind}
		if kind == 4 {
			x.sums = make([]api.Sum, 1)
		}
	}
	return x
}

// P3.2: any bytes, taken by any fields, against the model.
func TestAgainstModel(t *testing.T) {
	r := rand.New(rand.NewSource(4))
	for round := range 5000 {
		b := make([]byte, r.Intn(200))
		for at := range b {
			// Small numbers often, so that lists that fit come up, too.
			b[at] = byte(r.Intn(256) >> r.Intn(9))
		}
		i, m := Take(b), &model{b: b}
		for range 1 + r.Intn(12) {
			if r.Intn(20) == 0 {
				e := api.Errno(r.Intn(3))
				i.Fail(e)
				if m.err == api.OK {
					m.err = e
				}
			}
			kind, most := r.Intn(kinds), r.Intn(40)-4
			got, want := thing{kind: kind}.take(i, most), m.take(kind, most)
			if !got.is(want) {
				t.Fatalf("round %d: %v: %v was taken, not %v", round, b, got, want)
			}
			left := len(b) - m.at
			if m.err != api.OK {
				left = 0
			}
			if i.Err() != m.err || i.Left() != left {
				t.Fatalf("round %d: %v: Err %d, Left %d, not %d, %d", round, b, i.Err(), i.Left(), m.err, left)
			}
		}
		want := m.err
		if want == api.OK && m.at < len(b) {
			want = api.ErrForm
		}
		if e := i.End(); e != want || i.Err() != want {
			t.Fatalf("round %d: %v: End: %d, not %d", round, b, e, want)
		}
	}
}
