package build

import (
	"bytes"
	"fingerpost/api"
	"fingerpost/frame"
	"fingerpost/piece"
	"math"
	"math/rand"
	"slices"
	"testing"
)

var kinds = []int{frame.IsHello, frame.IsUpdate, frame.IsRenewal}

func bodies(t *testing.T, kind int, id uint32, b []byte, most int) []Body {
	t.Helper()
	l, e := Bodies(kind, id, b, most)
	if e != api.OK {
		t.Fatalf("Bodies(%d, %d, %d bytes, %d): %d", kind, id, len(b), most, e)
	}
	return l
}

func refused(t *testing.T, kind, size, most int, want api.Errno) {
	t.Helper()
	if l, e := Bodies(kind, 1, make([]byte, size), most); len(l) != 0 || e != want {
		t.Errorf("Bodies(%d, .., %d bytes, %d): %d, %d, not %d", kind, size, most, len(l), e, want)
	}
}

// P21.3: the chapter's examples.
func TestExample(t *testing.T) {
	l := bodies(t, frame.IsHello, 1, []byte{3}, 16)
	if !slices.EqualFunc(l, []Body{{1, []byte{3}}}, sameBody) {
		t.Errorf("a hello: %v", l)
	}
	l = bodies(t, frame.IsUpdate, 9, text(40), 32)
	whole := append([]byte{2}, text(40)...)
	want := []Body{{4, pieceBytes(9, 0, 2, whole[:24])}, {4, pieceBytes(9, 1, 2, whole[24:])}}
	if !slices.EqualFunc(l, want, sameBody) || len(whole[24:]) != 17 {
		t.Errorf("an update: %v, not %v", l, want)
	}
}

// P21.3: with at most most bytes it stays alone, with one more it is cut; each piece but the last one is as long as most.
func TestBodies(t *testing.T) {
	for _, kind := range kinds {
		for _, most := range []int{16, 17, 31, 32, 64, 700, 4095, 4096} {
			for _, size := range []int{0, 1, 15, 16, 17, most - 9, most - 8, most - 7, most - 1, most} {
				if size <= most {
					l := bodies(t, kind, 77, text(size), most)
					if !slices.EqualFunc(l, []Body{{kind, text(size)}}, sameBody) {
						t.Errorf("kind %d, %d bytes, %d: %v", kind, size, most, l)
					}
				}
			}
			part := most - 8
			for _, size := range []int{most + 1, 2*part - 2, 2*part - 1, 2 * part, 3*part - 1, 3 * part} {
				if size <= most || size >= 1<<14 {
					continue
				}
				whole := append([]byte{byte(kind)}, text(size)...)
				var want []Body
				many := (size + part) / part
				for at := range many {
					want = append(want, Body{4, pieceBytes(0x01020304, at, many, whole[at*part:min((at+1)*part, size+1)])})
				}
				l := bodies(t, kind, 0x01020304, text(size), most)
				if !slices.EqualFunc(l, want, sameBody) {
					t.Errorf("kind %d, %d bytes, %d: %v, not %v", kind, size, most, l, want)
				}
			}
		}
	}
	for _, id := range []uint32{0, 1, math.MaxUint32} {
		if l := bodies(t, 1, id, text(17), 16); len(l) != 3 || !bytes.Equal(l[2].Bytes, pieceBytes(id, 2, 3, text(17)[15:])) {
			t.Errorf("Id %d: %v", id, l)
		}
	}
}

// Errors: of Bodies.
func TestBodiesRefuse(t *testing.T) {
	for _, size := range []int{0, 1, 40, 1 << 14, 1 << 17} {
		for _, kind := range []int{0, 4, 5, -1, 255, 256, 257, 258, 259, -255, 1<<32 + 1, math.MaxInt, math.MinInt} {
			refused(t, kind, size, 32, api.ErrArg)
		}
		for _, kind := range kinds {
			for _, most := range []int{15, 8, 9, 7, 1, 0, -1, 4097, 1 << 14, math.MaxInt, math.MinInt, math.MinInt + 7} {
				refused(t, kind, size, most, api.ErrArg)
			}
		}
	}
	for _, kind := range kinds {
		// 32 pieces at most, and 2^14 bytes, the kind among them; of both it is the number of bytes that is told.
		for _, x := range []struct{ most, size, many int }{{16, 255, 32}, {17, 287, 32}, {519, 32*511 - 1, 32}, {520, 1<<14 - 1, 32}, {521, 1<<14 - 1, 32}, {522, 1<<14 - 1, 32}, {4096, 1<<14 - 1, 5}} {
			if l := bodies(t, kind, 1, text(x.size), x.most); len(l) != x.many {
				t.Errorf("%d bytes, %d: %d", x.size, x.most, len(l))
			}
		}
		refused(t, kind, 256, 16, api.ErrLimit)
		refused(t, kind, 288, 17, api.ErrLimit)
		refused(t, kind, 32*511, 519, api.ErrLimit)
		refused(t, kind, 1<<14-1, 16, api.ErrLimit)
		refused(t, kind, 1<<14-1, 519, api.ErrLimit)
		for _, most := range []int{16, 519, 520, 4096} {
			refused(t, kind, 1<<14, most, api.ErrArg)
			refused(t, kind, 1<<20, most, api.ErrArg)
		}
	}
}

// P21.3
func TestWhole(t *testing.T) {
	for _, kind := range kinds {
		for _, size := range []int{0, 1, 2, 40, 1<<14 - 1, 1 << 17} {
			got, b, e := Whole(append([]byte{byte(kind)}, text(size)...))
			if got != kind || !bytes.Equal(b, text(size)) || e != api.OK {
				t.Errorf("%d, %d bytes: %d, %d bytes, %d", kind, size, got, len(b), e)
			}
		}
	}
}

// Errors: of Whole.
func TestWholeRefuses(t *testing.T) {
	for _, b := range [][]byte{nil, {}} {
		if kind, got, e := Whole(b); kind != 0 || len(got) != 0 || e != api.ErrShort {
			t.Errorf("of nothing: %d, %v, %d", kind, got, e)
		}
	}
	for first := range 256 {
		if first >= 1 && first <= 3 {
			continue
		}
		for _, b := range [][]byte{{byte(first)}, {byte(first), 1, 2}} {
			if kind, got, e := Whole(b); kind != 0 || len(got) != 0 || e != api.ErrForm {
				t.Errorf("of %v: %d, %v, %d", b, kind, got, e)
			}
		}
	}
}

// P21.4: what is cut, and joined, in whatever order, some of it doubled, is whole again.
func TestCutAndJoined(t *testing.T) {
	r := rand.New(rand.NewSource(2144))
	for id := range uint32(1000) {
		most := 16 + r.Intn(200)
		if r.Intn(10) == 0 {
			most = 520 + r.Intn(3577)
		}
		kind, b := kinds[r.Intn(3)], make([]byte, most+1+r.Intn(min(32*(most-8), 1<<14)-most-1))
		r.Read(b)
		l := bodies(t, kind, id, b, most)
		l = append(l, l[r.Intn(len(l))])
		r.Shuffle(len(l), func(a, b int) { l[a], l[b] = l[b], l[a] })
		j, times := piece.New(), 0
		for _, x := range l {
			if x.Kind != frame.IsPiece || len(x.Bytes) > most {
				t.Fatalf("kind %d, %d bytes, %d at most", x.Kind, len(x.Bytes), most)
			}
			p, e := piece.Get(x.Bytes)
			if e != api.OK || p.Id != id {
				t.Fatalf("Get: %v, %d", p, e)
			}
			whole, done, _ := j.Take(p)
			if !done {
				continue
			}
			times++
			if got, back, e := Whole(whole); got != kind || !bytes.Equal(back, b) || e != api.OK {
				t.Fatalf("Whole: %d, %d bytes, %d", got, len(back), e)
			}
		}
		if times != 1 {
			t.Fatalf("whole %d times", times)
		}
	}
}

// R3: bytes that are handed in are neither changed nor kept, and no two bodies share memory.
func TestBodiesAreNew(t *testing.T) {
	for _, size := range []int{20, 100} {
		room := append(text(size), 1, 2, 3)
		b := room[:size]
		want := bodies(t, 2, 5, b, 32)
		got := bodies(t, 2, 5, b, 32)
		for at := range got {
			fill(got[at].Bytes, 0xee)
			if !slices.EqualFunc(got[at+1:], want[at+1:], sameBody) {
				t.Errorf("%d shares memory", at)
			}
		}
		fill(got, Body{})
		if !bytes.Equal(room, append(text(size), 1, 2, 3)) {
			t.Error("what was handed in has changed")
		}
		got = bodies(t, 2, 5, b, 32)
		fill(room, 0xdd)
		if !slices.EqualFunc(got, want, sameBody) {
			t.Error("what was handed in is kept")
		}
	}
	b := []byte{1, 2, 3, 4, 5}
	_, got, _ := Whole(b[:3])
	fill(got, 9)
	if !bytes.Equal(b, []byte{1, 2, 3, 4, 5}) {
		t.Errorf("Whole has changed %v", b)
	}
	_, got, _ = Whole(b)
	fill(b, 9)
	if !bytes.Equal(got, []byte{2, 3, 4, 5}) {
		t.Errorf("Whole has kept %v", got)
	}
}
