package peer

import (
	"bytes"
	"fingerpost/api"
	"fingerpost/frame"
	"fingerpost/toll"
	"math"
	"testing"
)

// P18.1, P18.2: the chapter's example.
func TestExample(t *testing.T) {
	a, b := with(t, 0, 1, wide(), 1), with(t, 1, 1, wide(), 0)
	for _, x := range [][2]*Table{{a, b}, {b, a}} {
		from, to := x[0].self, x[1].self
		s := seal(t, x[0], to, frame.IsHello, frame.PutHello(frame.Hello{Heard: 3}), from, 1, 1)
		f := admits(t, "once", x[1], s)
		refuses(t, "a second time", x[1], s, api.ErrReplay)
		h, e := frame.GetHello(f.Body)
		is(t, "GetHello", e, api.OK)
		hello(t, "Hello", x[1], from, h.Heard, true)
		s = seal(t, x[0], to, frame.IsHello, frame.PutHello(h), from, 1, 2)
		for at := range s {
			s[at] ^= 64 // of a node's number it makes no node
			_, want := frame.Open(keyOf(0, 1), s)
			if want == api.OK {
				t.Fatal("a turned byte is opened")
			}
			refuses(t, "with a byte turned", x[1], s, want)
			s[at] ^= 64
		}
		admits(t, "turned back", x[1], s)
	}
}

// P18.1: one counter for all neighbours, from 1 on; each frame by its own neighbour's key.
func TestSeal(t *testing.T) {
	for _, boot := range []uint64{1, 5, math.MaxUint64} {
		x := with(t, 6, boot, wide(), 0, 3, 7)
		count := uint64(0)
		for _, to := range []int{0, 3, 7, 7, 0} {
			for kind := frame.IsHello; kind <= frame.IsPiece; kind++ {
				for _, size := range []int{0, 1, 40, 4095, 4096} {
					count++
					seal(t, x, to, kind, text(size), 6, boot, count)
				}
			}
		}
	}
}

// P18.1, Errors: what isn't sealed takes no number.
func TestSealRefuses(t *testing.T) {
	x := with(t, 2, 4, wide(), 0, 5)
	refused := func(to, kind int, body []byte, want api.Errno) {
		t.Helper()
		if b, e := x.Seal(to, kind, body); len(b) != 0 || e != want {
			t.Errorf("Seal(%d, %d) of %d bytes: %x, %d, not %d", to, kind, len(body), b, e, want)
		}
	}
	for _, to := range append(noNodes, 1, 2, 3, 7) {
		refused(to, frame.IsHello, nil, api.ErrPeer)
		refused(to, 0, nil, api.ErrPeer)
		refused(to, frame.IsHello, make([]byte, 4097), api.ErrPeer)
	}
	seal(t, x, 0, frame.IsHello, nil, 2, 4, 1)
	for _, kind := range []int{0, -1, 5, 6, 256, 257, 258, 1<<32 + 1, math.MaxInt, math.MinInt} {
		refused(5, kind, nil, api.ErrArg)
	}
	for _, size := range []int{4097, 8192, 1 << 16, 1<<16 + 1} {
		refused(5, frame.IsPiece, make([]byte, size), api.ErrArg)
	}
	seal(t, x, 5, frame.IsPiece, text(4096), 2, 4, 2)
}

// P18.1, Errors: the counter's, behind what else is refused.
func TestSealSpent(t *testing.T) {
	x := with(t, 2, 4, wide(), 0)
	is(t, "Skip", x.counter.Skip(math.MaxUint64-1), api.OK)
	seal(t, x, 0, frame.IsHello, nil, 2, 4, math.MaxUint64)
	for range 2 {
		if b, e := x.Seal(0, frame.IsHello, nil); len(b) != 0 || e != api.ErrSpent {
			t.Errorf("Seal: %x, %d", b, e)
		}
	}
	if b, e := x.Seal(0, 9, nil); len(b) != 0 || e != api.ErrArg {
		t.Errorf("Seal: %x, %d", b, e)
	}
	if b, e := x.Seal(1, 9, nil); len(b) != 0 || e != api.ErrPeer {
		t.Errorf("Seal: %x, %d", b, e)
	}
}

// P18.1: the toll has paid for what is admitted, by the length of its body.
func TestAdmitCosts(t *testing.T) {
	x := with(t, 0, 1, wide(), 1, 2)
	frames, blocks := 1000, 100000
	for at, size := range []int{0, 33, 34, 97, 98, 700, 4095, 4096} {
		b := sealed(t, keyOf(0, 1), 1, 0, 1, uint64(at+1), text(size))
		admits(t, "one", x, b)
		frames, blocks = frames-1, blocks-frame.Cost(size)
		left(t, "paid", x, 1, frames, blocks)
		refuses(t, "again", x, b, api.ErrReplay)
		frames, blocks = frames-1, blocks-frame.Cost(size)
		left(t, "paid though replayed", x, 1, frames, blocks)
		b[len(b)-1] ^= 1
		refuses(t, "with another tag", x, b, api.ErrMac)
		frames, blocks = frames-1, blocks-frame.Cost(size)
		left(t, "paid though not sealed so", x, 1, frames, blocks)
		left(t, "another one's", x, 2, 1000, 100000)
	}
}

// P18.1, Errors: what isn't a frame, or isn't a neighbour's to self, costs nobody anything.
func TestStrangers(t *testing.T) {
	x := with(t, 2, 1, wide(), 1, 5)
	good := sealed(t, keyOf(1, 2), 1, 2, 1, 1, text(9))
	for size := range good {
		refuses(t, "cut", x, good[:size], api.ErrShort)
	}
	refuses(t, "more", x, append(bytes.Clone(good), 0), api.ErrForm)
	refuses(t, "another first byte", x, append([]byte{2}, good[1:]...), api.ErrForm)
	refuses(t, "too long", x, append(bytes.Clone(good[:20]), 255, 255), api.ErrLimit)
	for from := range 8 {
		for to := range 8 {
			if from == to || to == 2 && (from == 1 || from == 5) {
				continue
			}
			refuses(t, "a stranger's, or to another one", x, sealed(t, keyOf(from, to), from, to, 1, 1, text(9)), api.ErrPeer)
			refuses(t, "by any key", x, sealed(t, api.Digest{}, from, to, 1, 1, text(9)), api.ErrPeer)
		}
	}
	own, e := x.Seal(1, frame.IsHello, nil)
	is(t, "Seal", e, api.OK)
	refuses(t, "its own frame, sent back", x, own, api.ErrPeer)
	for _, id := range x.Ids() {
		left(t, "nobody paid", x, id, 1000, 100000)
	}
	tells(t, "nobody was heard", x, 0)
	admits(t, "the whole one", x, good)
}

// P18.1, Errors: ErrToll is ahead of ErrMac, and that ahead of ErrReplay; a toll that can't pay has nothing taken from it.
func TestOrder(t *testing.T) {
	r := wide()
	r.Rates = toll.Rates{Frames: 4, FramesTick: 1, Blocks: 24, BlocksTick: 4}
	x := with(t, 0, 1, r, 1)
	b := sealed(t, keyOf(0, 1), 1, 0, 1, 1, nil)
	turned := bytes.Clone(b)
	turned[30] ^= 1
	dear := sealed(t, keyOf(0, 1), 1, 0, 1, 2, text(4096))
	refuses(t, "too dear", x, dear, api.ErrToll)
	left(t, "nothing was taken", x, 1, 4, 24)
	refuses(t, "by no key of the two", x, turned, api.ErrMac)
	admits(t, "the first one", x, b)
	refuses(t, "turned and replayed", x, turned, api.ErrMac)
	refuses(t, "replayed", x, b, api.ErrReplay)
	left(t, "no frame is left", x, 1, 0, 8)
	refuses(t, "no frame is left", x, turned, api.ErrToll)
	refuses(t, "no frame is left", x, b, api.ErrToll)
	fresh := sealed(t, keyOf(0, 1), 1, 0, 1, 2, nil)
	refuses(t, "no frame is left", x, fresh, api.ErrToll)
	refuses(t, "a stranger's all the same", x, sealed(t, keyOf(0, 2), 2, 0, 1, 1, nil), api.ErrPeer)
	refuses(t, "no frame all the same", x, fresh[:20], api.ErrShort)
	ticks(t, "a frame comes back", x)
	admits(t, "its number wasn't taken", x, fresh)
	left(t, "paid", x, 1, 0, 8)
}

// P18.1: each tick fills each toll by a tick.
func TestTicksFillTolls(t *testing.T) {
	r := wide()
	r.Rates = toll.Rates{Frames: 5, FramesTick: 2, Blocks: 40, BlocksTick: 3}
	x := with(t, 0, 1, r, 1, 2)
	for count := range uint64(5) {
		admits(t, "one", x, sealed(t, keyOf(0, 1), 1, 0, 1, count+1, nil))
	}
	admits(t, "another one's", x, sealed(t, keyOf(0, 2), 2, 0, 1, 1, nil))
	left(t, "five frames", x, 1, 0, 20)
	left(t, "another one's", x, 2, 4, 36)
	for _, want := range [][4]int{{2, 23, 5, 39}, {4, 26, 5, 40}, {5, 29, 5, 40}, {5, 32, 5, 40}} {
		ticks(t, "tick", x)
		left(t, "tick", x, 1, want[0], want[1])
		left(t, "tick", x, 2, want[2], want[3])
	}
}

// P18.4: a window of the rules' size is each neighbour's own; only a frame with a right tag moves it.
func TestWindows(t *testing.T) {
	for _, size := range []int{1, 4, 64} {
		r := wide()
		r.Window = size
		x := with(t, 0, 1, r, 1, 2)
		from := func(id int, boot, count uint64) []byte { return sealed(t, keyOf(0, id), id, 0, boot, count, nil) }
		refuses(t, "by another key", x, sealed(t, keyOf(0, 2), 1, 0, 9, 900, nil), api.ErrMac)
		admits(t, "the top", x, from(1, 3, 100))
		for below := uint64(1); below < uint64(size); below++ {
			admits(t, "below the top", x, from(1, 3, 100-below))
			refuses(t, "again", x, from(1, 3, 100-below), api.ErrReplay)
		}
		refuses(t, "below the window", x, from(1, 3, 100-uint64(size)), api.ErrReplay)
		refuses(t, "of an elder boot", x, from(1, 2, 101), api.ErrReplay)
		admits(t, "another one's window", x, from(2, 1, 1))
		admits(t, "of a higher boot", x, from(1, math.MaxUint64, 1))
		refuses(t, "of what is an elder boot now", x, from(1, 3, 101), api.ErrReplay)
	}
}

// R3: what is handed in is not changed and not kept, what is handed out is new memory.
func TestFramesAreNewMemory(t *testing.T) {
	a, b := with(t, 0, 1, wide(), 1), with(t, 1, 1, wide(), 0)
	body := append(make([]byte, 0, 100), text(40)...)
	s, e := a.Seal(1, frame.IsPiece, body)
	is(t, "Seal", e, api.OK)
	body = body[:100]
	if !bytes.Equal(body[:40], text(40)) || !bytes.Equal(body[40:], make([]byte, 60)) {
		t.Error("a body was changed")
	}
	clear(body)
	before := bytes.Clone(s)
	f := admits(t, "sealed", b, s)
	if !bytes.Equal(f.Body, text(40)) || !bytes.Equal(s, before) {
		t.Error("a frame was changed, or a body kept")
	}
	clear(s[:cap(s)])
	if !bytes.Equal(f.Body, text(40)) {
		t.Error("a body is the frame's memory")
	}
	refuses(t, "again", b, before, api.ErrReplay)
}
