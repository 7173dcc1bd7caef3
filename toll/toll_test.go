package toll

import (
	"fingerpost/api"
	"math"
	"math/big"
	"math/rand"
	"testing"
)

const most = 1 << 30

func made(t *testing.T, r Rates) *Toll {
	t.Helper()
	l, e := New(r)
	if l == nil || e != api.OK {
		t.Fatalf("New(%v): %v, %d", r, l, e)
	}
	return l
}

func is(t *testing.T, what string, e, want api.Errno) {
	t.Helper()
	if e != want {
		t.Errorf("%s: %d, not %d", what, e, want)
	}
}

func left(t *testing.T, what string, l *Toll, frames, blocks int) {
	t.Helper()
	if f, b := l.Left(); f != frames || b != blocks {
		t.Errorf("%s: %d, %d are left, not %d, %d", what, f, b, frames, blocks)
	}
}

// P17.1: each rate at its edges; what may not be isn't made.
func TestRates(t *testing.T) {
	for at, least := range []int{1, 0, 1, 0} {
		for _, x := range []struct {
			n  int
			ok bool
		}{
			{least, true}, {1, true}, {2, true}, {7, true}, {most - 1, true}, {most, true},
			{least - 1, false}, {-1, false}, {most + 1, false}, {1 << 31, false}, {1<<32 + 1, false}, {math.MaxInt, false}, {math.MinInt, false}, {math.MinInt + 1, false},
		} {
			n := [4]int{5, 5, 5, 5}
			n[at] = x.n
			r := Rates{n[0], n[1], n[2], n[3]}
			if Right(r) != x.ok {
				t.Errorf("Right(%v): %v", r, !x.ok)
			}
			if x.ok {
				left(t, "New", made(t, r), r.Frames, r.Blocks)
			} else if l, e := New(r); l != nil || e != api.ErrArg {
				t.Errorf("New(%v): %v, %d", r, l, e)
			}
		}
	}
	if Right(Rates{}) {
		t.Error("no rates are right")
	}
}

// P17.1, P17.2: the chapter's example.
func TestExample(t *testing.T) {
	l := made(t, Rates{2, 1, 10, 3})
	is(t, "Frame(4)", l.Frame(4), api.OK)
	is(t, "Frame(4)", l.Frame(4), api.OK)
	left(t, "two frames", l, 0, 2)
	is(t, "Frame(0)", l.Frame(0), api.ErrToll)
	is(t, "Tick(1)", l.Tick(1), api.OK)
	left(t, "Tick(1)", l, 1, 5)
	is(t, "Hold(5)", l.Hold(5), api.OK)
	left(t, "Hold(5)", l, 1, 0)
	is(t, "Settle(2)", l.Settle(2), api.OK)
	left(t, "Settle(2)", l, 1, 3)
}

// P17.1: a frame and its blocks go together, or neither does.
func TestFrame(t *testing.T) {
	l := made(t, Rates{Frames: 3, Blocks: 10})
	is(t, "one block too many", l.Frame(11), api.ErrToll)
	is(t, "far too many", l.Frame(math.MaxInt), api.ErrToll)
	left(t, "refused", l, 3, 10)
	is(t, "all but one", l.Frame(9), api.OK)
	left(t, "all but one", l, 2, 1)
	is(t, "two of one", l.Frame(2), api.ErrToll)
	left(t, "refused", l, 2, 1)
	is(t, "the last one", l.Frame(1), api.OK)
	is(t, "one of none", l.Frame(1), api.ErrToll)
	is(t, "none of none", l.Frame(0), api.OK)
	is(t, "no frame", l.Frame(0), api.ErrToll)
	left(t, "nothing", l, 0, 0)
	l = made(t, Rates{Frames: 1, Blocks: 10})
	is(t, "all at once", l.Frame(10), api.OK)
	left(t, "nothing", l, 0, 0)
	l = made(t, Rates{Frames: 1, Blocks: 10})
	is(t, "the only frame", l.Frame(1), api.OK)
	is(t, "blocks, but no frame", l.Frame(1), api.ErrToll)
	left(t, "refused", l, 0, 9)
}

// P17.1: each of the two is filled by its own rate, to its own end.
func TestTick(t *testing.T) {
	l := made(t, Rates{10, 3, 100, 7})
	empty := func() {
		for range 10 {
			l.Frame(0)
		}
		_, blocks := l.Left()
		l.Hold(blocks)
		left(t, "emptied", l, 0, 0)
	}
	for _, x := range [][3]int{{0, 0, 0}, {1, 3, 7}, {2, 6, 14}, {3, 9, 21}, {4, 10, 28}, {14, 10, 98}, {15, 10, 100}, {16, 10, 100}, {most + 1, 10, 100}, {math.MaxInt, 10, 100}, {math.MaxInt/7 + 1, 10, 100}, {1 << 62, 10, 100}} {
		empty()
		is(t, "Tick", l.Tick(x[0]), api.OK)
		left(t, "Tick", l, x[1], x[2])
	}
	is(t, "Tick, full", l.Tick(math.MaxInt), api.OK)
	left(t, "full", l, 10, 100)
}

// P17.1, R6: no number of ticks leads beyond the end of an int.
func TestGreatTicks(t *testing.T) {
	for _, each := range []int{0, 1, 2, 3, 1 << 29, most - 1, most} {
		for _, ticks := range []int{0, 1, 2, 1<<30 - 1, 1 << 30, 1 << 32, 1 << 33, 1<<34 + 1, 1 << 40, 1 << 61, 1 << 62, math.MaxInt - 1, math.MaxInt} {
			l := made(t, Rates{2, each, most, each})
			is(t, "Frame", l.Frame(most), api.OK)
			is(t, "Tick", l.Tick(ticks), api.OK)
			n := new(big.Int).Mul(big.NewInt(int64(each)), big.NewInt(int64(ticks)))
			frames, blocks := 2, most
			if n.Cmp(big.NewInt(most)) < 0 {
				blocks = int(n.Int64())
			}
			if n.Sign() == 0 {
				frames = 1
			}
			left(t, "Tick", l, frames, blocks)
		}
	}
}

// P17.1: where nothing comes back, nothing does.
func TestNothingComesBack(t *testing.T) {
	l := made(t, Rates{Frames: 2, Blocks: 5})
	is(t, "Frame", l.Frame(5), api.OK)
	is(t, "Tick", l.Tick(math.MaxInt), api.OK)
	left(t, "Tick", l, 1, 0)
}

// P17.2
func TestHoldAndSettle(t *testing.T) {
	l := made(t, Rates{Frames: 2, Blocks: 10, BlocksTick: 4})
	is(t, "none is owed", l.Settle(1), api.ErrArg)
	is(t, "none is owed", l.Settle(0), api.OK)
	left(t, "nothing was held", l, 2, 10)
	is(t, "Hold(11)", l.Hold(11), api.ErrToll)
	is(t, "Hold(MaxInt)", l.Hold(math.MaxInt), api.ErrToll)
	left(t, "refused", l, 2, 10)
	is(t, "nothing of what was refused is owed", l.Settle(1), api.ErrArg)
	is(t, "Hold(0)", l.Hold(0), api.OK)
	is(t, "Hold(6)", l.Hold(6), api.OK)
	left(t, "Hold(6)", l, 2, 4)
	is(t, "Hold(4)", l.Hold(4), api.OK)
	left(t, "Hold(4)", l, 2, 0)
	is(t, "Hold(1) of none", l.Hold(1), api.ErrToll)
	is(t, "more than all that is owed", l.Settle(11), api.ErrArg)
	left(t, "refused", l, 2, 0)
	is(t, "all that is owed", l.Settle(10), api.OK)
	left(t, "all was used", l, 2, 0)
	is(t, "nothing is owed any more", l.Settle(1), api.ErrArg)
	is(t, "Tick", l.Tick(1), api.OK)
	is(t, "Hold(3)", l.Hold(3), api.OK)
	is(t, "Settle(0)", l.Settle(0), api.OK)
	left(t, "all comes back", l, 2, 4)
	is(t, "once", l.Settle(0), api.OK)
	left(t, "once", l, 2, 4)
	is(t, "no frame is owed", l.Frame(4), api.OK)
	is(t, "a frame's blocks aren't owed", l.Settle(1), api.ErrArg)
	left(t, "a frame's blocks", l, 1, 0)
}

// P17.2: what comes back doesn't lead above Blocks, where ticks filled it meanwhile.
func TestSettleBehindTicks(t *testing.T) {
	for ticks, want := range []int{7, 9, 10, 10, 10} {
		l := made(t, Rates{1, 0, 10, 2})
		is(t, "Hold", l.Hold(9), api.OK)
		is(t, "Tick", l.Tick(ticks), api.OK)
		is(t, "Settle", l.Settle(3), api.OK)
		left(t, "Settle", l, 1, want)
	}
	l := made(t, Rates{1, 0, most, most})
	for range 9 {
		is(t, "Hold", l.Hold(most), api.OK)
		is(t, "Tick", l.Tick(1), api.OK)
	}
	left(t, "filled again and again", l, 1, most)
	is(t, "above all that is owed", l.Settle(9*most+1), api.ErrArg)
	is(t, "all that is owed but one", l.Settle(9*most-1), api.OK)
	left(t, "no more than Blocks", l, 1, most)
}

// Errors: a number below 0, ahead of ErrToll; nothing has changed.
func TestBelowZero(t *testing.T) {
	full := made(t, Rates{2, 1, 10, 3})
	empty := made(t, Rates{1, 1, 10, 3})
	empty.Frame(0)
	empty.Hold(10)
	for _, l := range []*Toll{full, empty} {
		frames, blocks := l.Left()
		for _, n := range []int{-1, -2, -10, math.MinInt, math.MinInt + 1} {
			is(t, "Tick", l.Tick(n), api.ErrArg)
			is(t, "Frame", l.Frame(n), api.ErrArg)
			is(t, "Hold", l.Hold(n), api.ErrArg)
			is(t, "Settle", l.Settle(n), api.ErrArg)
		}
		left(t, "refused", l, frames, blocks)
	}
	is(t, "what is owed", empty.Settle(11), api.ErrArg)
	is(t, "what is owed", empty.Settle(9), api.OK)
	left(t, "what is owed", empty, 0, 1)
}

// R1, Errors
func TestNilToll(t *testing.T) {
	var l *Toll
	for _, n := range []int{0, 1, -1, math.MaxInt, math.MinInt} {
		is(t, "Tick", l.Tick(n), api.ErrNil)
		is(t, "Frame", l.Frame(n), api.ErrNil)
		is(t, "Hold", l.Hold(n), api.ErrNil)
		is(t, "Settle", l.Settle(n), api.ErrNil)
	}
	left(t, "nil", l, 0, 0)
}

// R1: a toll that nobody made panics neither.
func TestUnmadeToll(t *testing.T) {
	l := &Toll{}
	for _, n := range []int{0, 1, -1, math.MaxInt, math.MinInt} {
		l.Tick(n)
		l.Frame(n)
		l.Hold(n)
		l.Settle(n)
		l.Left()
	}
}

// P17.3
func TestMost(t *testing.T) {
	for _, x := range []struct {
		r           Rates
		ticks, want int
	}{
		{Rates{2, 1, 10, 3}, 0, 10}, {Rates{2, 1, 10, 3}, 1, 13}, {Rates{2, 1, 10, 3}, 7, 31}, {Rates{1, 0, 1, 0}, 1 << 30, 1},
		{Rates{most, most, most, most}, 0, 1 << 30}, {Rates{most, most, most, most}, 1<<30 - 1, 1 << 60}, {Rates{most, most, most, most}, 1 << 30, 1<<60 + 1<<30},
		{Rates{2, 1, 10, 3}, -1, 0}, {Rates{2, 1, 10, 3}, 1<<30 + 1, 0}, {Rates{2, 1, 10, 3}, math.MaxInt, 0}, {Rates{2, 1, 10, 3}, math.MinInt, 0}, {Rates{1, 0, 1, 0}, 1<<30 + 1, 0},
		{Rates{0, 1, 10, 3}, 1, 0}, {Rates{2, -1, 10, 3}, 1, 0}, {Rates{2, 1, 0, 3}, 1, 0}, {Rates{2, 1, 10, -1}, 1, 0}, {Rates{2, most + 1, 10, 3}, 1, 0}, {Rates{2, 1, 10, most + 1}, 0, 0}, {Rates{}, 0, 0},
	} {
		if got := Most(x.r, x.ticks); got != x.want {
			t.Errorf("Most(%v, %d): %d, not %d", x.r, x.ticks, got, x.want)
		}
	}
}

// model is a toll as the chapter's words tell it, tick by tick.
type model struct {
	r                    Rates
	frames, blocks, owed int
}

func (m *model) tick(ticks int) api.Errno {
	for range ticks {
		m.frames = min(m.frames+m.r.FramesTick, m.r.Frames)
		m.blocks = min(m.blocks+m.r.BlocksTick, m.r.Blocks)
	}
	return refused(ticks < 0, api.ErrArg)
}

func (m *model) frame(blocks int) api.Errno {
	if blocks < 0 {
		return api.ErrArg
	}
	if m.frames < 1 || m.blocks < blocks {
		return api.ErrToll
	}
	m.frames, m.blocks = m.frames-1, m.blocks-blocks
	return api.OK
}

func (m *model) hold(blocks int) api.Errno {
	if blocks < 0 {
		return api.ErrArg
	}
	if m.blocks < blocks {
		return api.ErrToll
	}
	m.blocks, m.owed = m.blocks-blocks, m.owed+blocks
	return api.OK
}

func (m *model) settle(used int) api.Errno {
	if used < 0 || used > m.owed {
		return api.ErrArg
	}
	m.blocks, m.owed = min(m.blocks+m.owed-used, m.r.Blocks), 0
	return api.OK
}

func refused(is bool, e api.Errno) api.Errno {
	if is {
		return e
	}
	return api.OK
}

// P17.1 to P17.3: against the model; and within the ticks from any step on no more is taken, less what came back, than Most.
func TestAgainstModel(t *testing.T) {
	r := rand.New(rand.NewSource(17))
	for round := range 400 {
		rates := Rates{1 + r.Intn(6), r.Intn(4), 1 + r.Intn(40), r.Intn(15)}
		l, m := made(t, rates), &model{r: rates, frames: rates.Frames, blocks: rates.Blocks}
		ticks, taken := 0, 0
		var steps [][2]int // the ticks ahead of each step, and what was taken by then
		for range 300 {
			steps = append(steps, [2]int{ticks, taken})
			n := r.Intn(rates.Blocks+3) - 1
			_, before := l.Left()
			var got, want api.Errno
			kind := r.Intn(4)
			switch kind {
			case 0:
				n = r.Intn(5) - 1
				got, want = l.Tick(n), m.tick(n)
				ticks += max(n, 0)
			case 1:
				n /= 3
				got, want = l.Frame(n), m.frame(n)
			case 2:
				got, want = l.Hold(n), m.hold(n)
			case 3:
				n = r.Intn(m.owed+3) - 1
				got, want = l.Settle(n), m.settle(n)
			}
			frames, blocks := l.Left()
			if got != want || frames != m.frames || blocks != m.blocks {
				t.Fatalf("round %d: the kind %d of %d: %d, not %d; %d, %d are left, not %d, %d", round, kind, n, got, want, frames, blocks, m.frames, m.blocks)
			}
			if kind != 0 {
				taken += before - blocks
			}
			for _, from := range steps {
				if taken-from[1] > Most(rates, ticks-from[0]) {
					t.Fatalf("round %d: within %d ticks %d are taken", round, ticks-from[0], taken-from[1])
				}
			}
		}
	}
}

// P17.3: so much may be taken.
func TestMostIsTaken(t *testing.T) {
	rates := Rates{1, 0, 10, 3}
	l, taken := made(t, rates), 0
	for range 8 {
		_, blocks := l.Left()
		is(t, "Hold", l.Hold(blocks), api.OK)
		taken += blocks
		is(t, "Tick", l.Tick(1), api.OK)
	}
	if taken != Most(rates, 7) {
		t.Errorf("within 7 ticks %d are taken", taken)
	}
}
