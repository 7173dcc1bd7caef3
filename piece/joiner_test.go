package piece

import (
	"bytes"
	"fingerpost/api"
	"math"
	"math/rand"
	"slices"
	"testing"
)

// P13.2: the chapter's example.
func TestExample(t *testing.T) {
	l, j := split(t, 1, []byte("abcde"), 2), New()
	takes(t, j, l[2], api.OK)
	takes(t, j, l[0], api.OK)
	takes(t, j, l[0], api.OK)
	ends(t, j, l[1], []byte("abcde"))
}

// P13.2
func TestWaits(t *testing.T) {
	j, l := New(), split(t, 5, text(10), 3)
	waits(t, j, 0, 0)
	for n, at := range []int{3, 0, 2} {
		takes(t, j, l[at], api.OK)
		waits(t, j, n+1, 4)
		takes(t, j, l[at], api.OK)
		waits(t, j, n+1, 4)
	}
	ends(t, j, l[1], text(10))
	waits(t, j, 0, 0)
	takes(t, j, Piece{6, 1, 2, nil}, api.OK)
	waits(t, j, 1, 2)
}

// P13.2: a body of one piece; a body, and parts, without bytes.
func TestSmallBodies(t *testing.T) {
	j := New()
	ends(t, j, Piece{0, 0, 1, []byte("a")}, []byte("a"))
	takes(t, j, Piece{0, 0, 1, []byte("a")}, api.ErrOld)
	ends(t, j, Piece{1, 0, 1, nil}, nil)
	takes(t, j, Piece{1, 0, 1, nil}, api.ErrOld)
	takes(t, j, Piece{2, 1, 2, nil}, api.OK)
	takes(t, j, Piece{2, 1, 2, []byte{}}, api.OK)
	takes(t, j, Piece{2, 1, 2, []byte{0}}, api.ErrTwice)
	waits(t, j, 1, 2)
	ends(t, j, Piece{2, 0, 2, []byte{}}, nil)
	waits(t, j, 0, 0)
}

// P13.2, Errors: of an elder body, or of one that is over, nothing is taken, whatever stands in it.
func TestOldBodies(t *testing.T) {
	j := New()
	takes(t, j, Piece{5, 0, 2, []byte("a")}, api.OK)
	for _, id := range []uint32{0, 1, 4} {
		takes(t, j, Piece{id, 1, 2, []byte("b")}, api.ErrOld)
		takes(t, j, Piece{id, 0, 1, []byte("b")}, api.ErrOld)
		takes(t, j, Piece{id, 0, 2, []byte("b")}, api.ErrOld)
	}
	waits(t, j, 1, 2)
	ends(t, j, Piece{5, 1, 2, []byte("b")}, []byte("ab"))
	for _, id := range []uint32{0, 4, 5} {
		for _, p := range []Piece{{id, 0, 2, []byte("a")}, {id, 1, 2, []byte("c")}, {id, 0, 1, nil}, {id, 9, 32, nil}} {
			takes(t, j, p, api.ErrOld)
		}
	}
	waits(t, j, 0, 0)
	ends(t, j, Piece{6, 0, 1, []byte("c")}, []byte("c"))
	takes(t, j, Piece{math.MaxUint32, 0, 2, nil}, api.OK)
	takes(t, j, Piece{math.MaxUint32 - 1, 0, 1, nil}, api.ErrOld)
	takes(t, j, Piece{0, 0, 1, nil}, api.ErrOld)
	ends(t, j, Piece{math.MaxUint32, 1, 2, nil}, nil)
}

// P13.2: with a higher number another body begins, of its own Many, without a part.
func TestHigherBodies(t *testing.T) {
	j := New()
	takes(t, j, Piece{1, 0, 2, []byte("a")}, api.OK)
	takes(t, j, Piece{2, 1, 3, []byte("b")}, api.OK)
	waits(t, j, 1, 3)
	takes(t, j, Piece{1, 1, 2, []byte("b")}, api.ErrOld)
	takes(t, j, Piece{2, 0, 3, []byte("A")}, api.OK)
	waits(t, j, 2, 3)
	takes(t, j, Piece{300, 0, 2, []byte("x")}, api.OK)
	waits(t, j, 1, 2)
	ends(t, j, Piece{300, 1, 2, []byte("y")}, []byte("xy"))
	takes(t, j, Piece{301, 0, 2, []byte("z")}, api.OK)
	ends(t, j, Piece{302, 0, 1, nil}, nil)
	takes(t, j, Piece{301, 1, 2, []byte("z")}, api.ErrOld)
}

// P13.2, Errors: of another Many, or with another part: nothing has changed.
func TestOtherPieces(t *testing.T) {
	j := New()
	takes(t, j, Piece{1, 1, 3, []byte("b")}, api.OK)
	for _, many := range []int{2, 4, 32} {
		takes(t, j, Piece{1, 1, many, []byte("b")}, api.ErrForm)
		takes(t, j, Piece{1, 1, many, []byte("c")}, api.ErrForm)
		takes(t, j, Piece{1, 0, many, []byte("a")}, api.ErrForm)
	}
	takes(t, j, Piece{1, 0, 1, []byte("a")}, api.ErrForm)
	for _, part := range []string{"", "a", "B", "bb", "\x00b"} {
		takes(t, j, Piece{1, 1, 3, []byte(part)}, api.ErrTwice)
	}
	waits(t, j, 1, 3)
	takes(t, j, Piece{1, 1, 3, []byte("b")}, api.OK)
	takes(t, j, Piece{1, 2, 3, []byte("c")}, api.OK)
	ends(t, j, Piece{1, 0, 3, []byte("a")}, []byte("abc"))
}

// P13.2, Errors: what is no piece changes nothing, not even of a higher number; it comes ahead of what is old.
func TestTakeOfNoPieces(t *testing.T) {
	l, _ := wrongPieces()
	fresh, j := New(), New()
	takes(t, j, Piece{2, 0, 2, []byte("a")}, api.OK)
	for _, p := range l {
		takes(t, fresh, p, api.ErrArg)
		waits(t, fresh, 0, 0)
		for _, id := range []uint32{0, 2, 3, math.MaxUint32} {
			p.Id = id
			takes(t, j, p, api.ErrArg)
			waits(t, j, 1, 2)
			takes(t, nil, p, api.ErrNil)
		}
	}
	ends(t, j, Piece{2, 1, 2, []byte("b")}, []byte("ab"))
	for _, p := range l {
		p.Id = 2
		takes(t, j, p, api.ErrArg)
	}
}

// P13.2, Errors: a body of MaxBody bytes is put together; of one more it is over, even if parts are missing.
func TestLongBodies(t *testing.T) {
	j := New()
	part := func(id uint32, at, many, size int) Piece {
		return Piece{id, at, many, text(size)}
	}
	for at := range 4 {
		takes(t, j, part(1, at, 5, 4096), api.OK)
	}
	whole := bytes.Repeat(text(4096), 4)
	takes(t, j, part(1, 3, 5, 4096), api.OK)
	takes(t, j, part(1, 3, 5, 4095), api.ErrTwice)
	waits(t, j, 4, 5)
	ends(t, j, part(1, 4, 5, 0), whole)

	for at := range 4 {
		takes(t, j, part(2, at, 6, 4096), api.OK)
	}
	takes(t, j, part(2, 5, 6, 1), api.ErrLimit)
	waits(t, j, 0, 0)
	for at := range 5 {
		takes(t, j, part(2, at, 6, 0), api.ErrOld)
		takes(t, j, part(2, at, 5, 4096), api.ErrOld)
	}
	takes(t, j, part(1, 0, 2, 1), api.ErrOld)

	// The last part that is missing may be the one too many.
	takes(t, j, part(3, 1, 5, 4096), api.OK)
	takes(t, j, part(3, 4, 5, 4096), api.OK)
	takes(t, j, part(3, 0, 5, 4096), api.OK)
	takes(t, j, part(3, 2, 5, 4000), api.OK)
	takes(t, j, part(3, 3, 5, 97), api.ErrLimit)
	takes(t, j, part(3, 3, 5, 96), api.ErrOld)
	ends(t, j, part(4, 0, 1, 4096), text(4096))
}

// P13.2, P13.3: bodies of the greatest length, in the most pieces, and in the greatest ones.
func TestGreatestBodies(t *testing.T) {
	j := New()
	for id, size := range []int{512, 4096, 513, 1000} {
		l := split(t, uint32(id), text(1<<14), size)
		for _, p := range l[1:] {
			takes(t, j, p, api.OK)
		}
		ends(t, j, l[0], text(1<<14))
	}
}

// P13.3: in any order, doubled or not, pieces are put together to their body, once.
func TestAnyOrder(t *testing.T) {
	r, j := rand.New(rand.NewSource(2)), New()
	for id := range uint32(400) {
		size := 1 + r.Intn(4096)>>r.Intn(12)
		body := text(r.Intn(min(32*size, 1<<14) + 1))
		l := split(t, id, body, size)
		queue := slices.Clone(l)
		for range r.Intn(20) {
			queue = append(queue, l[r.Intn(len(l))])
		}
		r.Shuffle(len(queue), func(a, b int) { queue[a], queue[b] = queue[b], queue[a] })
		there, wholes := map[int]bool{}, 0
		for _, p := range queue {
			got, done, e := j.Take(p)
			switch {
			case wholes > 0:
				if done || len(got) != 0 || e != api.ErrOld {
					t.Fatalf("behind the body %d: %v, %d", id, done, e)
				}
				continue
			case e != api.OK:
				t.Fatalf("Take of %d, %d of %d: %d", id, p.At, p.Many, e)
			}
			there[p.At] = true
			if done != (len(there) == len(l)) || !done && len(got) != 0 {
				t.Fatalf("Take of %d, %d of %d: %v, with %d there", id, p.At, p.Many, done, len(there))
			}
			if done {
				wholes++
				if !bytes.Equal(got, body) {
					t.Fatalf("the body %d: %x, not %x", id, got, body)
				}
			}
		}
		if wholes != 1 {
			t.Fatalf("the body %d came %d times", id, wholes)
		}
	}
}

// model is a joiner as the chapter's words tell it.
type model struct {
	any, over bool
	id        uint32
	many      int
	parts     map[int]string
}

func (m *model) take(p Piece) ([]byte, bool, api.Errno) {
	if p.Many < 1 || p.Many > 32 || p.At < 0 || p.At >= p.Many || len(p.Part) > 4096 {
		return nil, false, api.ErrArg
	}
	if m.any && (p.Id < m.id || p.Id == m.id && m.over) {
		return nil, false, api.ErrOld
	}
	if !m.any || p.Id > m.id {
		m.any, m.over, m.id, m.many, m.parts = true, false, p.Id, p.Many, map[int]string{}
	}
	if m.many != p.Many {
		return nil, false, api.ErrForm
	}
	if x, ok := m.parts[p.At]; ok {
		if x != string(p.Part) {
			return nil, false, api.ErrTwice
		}
		return nil, false, api.OK
	}
	size := len(p.Part)
	for _, x := range m.parts {
		size += len(x)
	}
	if size > 1<<14 {
		m.over = true
		return nil, false, api.ErrLimit
	}
	m.parts[p.At] = string(p.Part)
	if len(m.parts) < m.many {
		return nil, false, api.OK
	}
	m.over = true
	var body []byte
	for at := range m.many {
		body = append(body, m.parts[at]...)
	}
	return body, true, api.OK
}

func (m *model) waits() (int, int) {
	if !m.any || m.over {
		return 0, 0
	}
	return len(m.parts), m.many
}

// P13.2: any pieces, held against the model.
func TestAgainstModel(t *testing.T) {
	r, seen := rand.New(rand.NewSource(3)), map[api.Errno]int{}
	wrong, _ := wrongPieces()
	for round := range 300 {
		j, m, id := New(), &model{}, uint32(r.Intn(3))
		for range 200 {
			p := Piece{Id: id, Many: 1 + r.Intn(9), Part: text(r.Intn(4097) >> r.Intn(4))}
			if round%2 == 0 {
				p.Part = text(4096 - len(p.Part)/8)
			}
			switch r.Intn(40) {
			case 0:
				p = wrong[r.Intn(len(wrong))]
			case 1, 2:
				id += uint32(r.Intn(3))
			case 3:
				p.Id -= uint32(r.Intn(2))
			}
			if _, many := m.waits(); many > 0 && r.Intn(8) > 0 {
				p.Many = many
			}
			if p.Many > 0 && p.At == 0 {
				p.At = r.Intn(p.Many)
			}
			if x, ok := m.parts[p.At]; ok && r.Intn(2) == 0 {
				p.Part = []byte(x)
			}
			want, whole, e := m.take(p)
			got, done, f := j.Take(p)
			fill(p.Part, 0xee)
			if !bytes.Equal(got, want) || done != whole || f != e {
				t.Fatalf("Take of %d, %d of %d: %v, %d, not %v, %d", p.Id, p.At, p.Many, done, f, whole, e)
			}
			fill(got, 0xdd)
			have, many := m.waits()
			waits(t, j, have, many)
			seen[e]++
			if whole {
				seen[-1]++
			}
		}
	}
	for _, e := range []api.Errno{-1, api.OK, api.ErrArg, api.ErrOld, api.ErrForm, api.ErrTwice, api.ErrLimit} {
		if seen[e] < 20 {
			t.Errorf("%d came %d times", e, seen[e])
		}
	}
}

// R1: of nil, and of a joiner that nobody made.
func TestNilJoiner(t *testing.T) {
	for _, p := range append(rightPieces(), Piece{}) {
		takes(t, nil, p, api.ErrNil)
		(&Joiner{}).Take(p)
	}
	waits(t, nil, 0, 0)
	(&Joiner{}).Waits()
}
