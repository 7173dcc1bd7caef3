package peer

import (
	"fingerpost/api"
	"fingerpost/frame"
	"testing"
)

// hear lets a table admit a frame of a neighbour with a number that it didn't have yet.
func hear(t *testing.T, x *Table, id int, count uint64) {
	t.Helper()
	admits(t, "hear", x, sealed(t, keyOf(x.self, id), id, x.self, 1, count, nil))
}

// P18.2: a neighbour that was heard is live by a hello in which self's bit is 1, whatever the others are.
func TestHelloBits(t *testing.T) {
	for self := range 8 {
		for bits := range 256 {
			id := (self + 3) % 8
			x := with(t, self, 1, wide(), id)
			hear(t, x, id, 1)
			hears := bits>>self&1 == 1
			hello(t, "the first one", x, id, uint8(bits), hears)
			if hears {
				tells(t, "hears", x, 1<<id, id)
			} else {
				tells(t, "doesn't hear", x, 1<<id)
			}
		}
	}
}

// P18.2: up is told once, till it isn't live in between.
func TestUp(t *testing.T) {
	x := with(t, 0, 1, wide(), 1, 2)
	hear(t, x, 1, 1)
	hello(t, "doesn't hear", x, 1, 2, false)
	hello(t, "hears", x, 1, 1, true)
	hello(t, "hears on", x, 1, 3, false)
	tells(t, "live", x, 2, 1)
	hello(t, "hears no more", x, 1, 254, false)
	tells(t, "not live", x, 2)
	hello(t, "nor now", x, 1, 0, false)
	hello(t, "hears again", x, 1, 255, true)
	tells(t, "live again", x, 2, 1)
}

// P18.2: who was never heard isn't live, whomever it hears; to be heard alone makes nobody live.
func TestNeverHeard(t *testing.T) {
	x := with(t, 0, 1, wide(), 1, 2)
	hello(t, "never heard", x, 1, 255, false)
	tells(t, "never heard", x, 0)
	hear(t, x, 1, 1)
	tells(t, "heard, behind its hello", x, 2)
	hello(t, "heard", x, 1, 1, true)
	ticks(t, "1", x)
	ticks(t, "2", x)
	ticks(t, "3", x, 1)
	hello(t, "not lately", x, 1, 1, false)
	tells(t, "not lately", x, 0)
	hear(t, x, 1, 2)
	tells(t, "heard, behind its hello", x, 2)
	hello(t, "heard", x, 1, 1, true)
}

// P18.2, Errors
func TestHelloRefuses(t *testing.T) {
	x := with(t, 0, 1, wide(), 1)
	for _, id := range append(noNodes, 0, 2, 7) {
		if up, e := x.Hello(id, frame.Hello{Heard: 255}); up || e != api.ErrPeer {
			t.Errorf("Hello(%d): %v, %d", id, up, e)
		}
	}
	tells(t, "refused", x, 0)
}

// P18.2, P18.3: heard lately is less than Dead ticks ago, from whichever tick on.
func TestDead(t *testing.T) {
	for _, dead := range []int{1, 2, 3, 7} {
		r := wide()
		r.Dead = dead
		x := with(t, 5, 1, r, 4)
		for round := range 3 {
			for range round {
				ticks(t, "ahead", x)
			}
			hear(t, x, 4, uint64(round+1))
			hello(t, "heard", x, 4, 1<<5, true)
			for range dead - 1 {
				tells(t, "lately", x, 1<<4, 4)
				ticks(t, "not yet", x)
			}
			tells(t, "lately still", x, 1<<4, 4)
			ticks(t, "behind Dead ticks", x, 4)
			tells(t, "not lately", x, 0)
			ticks(t, "gone but once", x)
		}
	}
	r := wide()
	r.Dead = 1 << 20
	x := with(t, 5, 1, r, 4)
	hear(t, x, 4, 1)
	hello(t, "heard", x, 4, 1<<5, true)
	for range 1<<20 - 1 {
		if len(x.Tick()) != 0 {
			t.Fatal("gone too early")
		}
	}
	tells(t, "lately still", x, 1<<4, 4)
	ticks(t, "behind 2^20 ticks", x, 4)
}

// P18.2: each frame that is admitted begins anew; what is refused doesn't, nor a hello alone.
func TestHeardNow(t *testing.T) {
	x := with(t, 0, 1, wide(), 1, 2)
	hear(t, x, 1, 1)
	hello(t, "heard", x, 1, 1, true)
	ticks(t, "1", x)
	ticks(t, "2", x)
	hear(t, x, 1, 2)
	ticks(t, "3", x)
	ticks(t, "4", x)
	tells(t, "heard in between", x, 2, 1)
	refuses(t, "replayed", x, sealed(t, keyOf(0, 1), 1, 0, 1, 2, nil), api.ErrReplay)
	refuses(t, "by another key", x, sealed(t, api.Digest{}, 1, 0, 1, 3, nil), api.ErrMac)
	hello(t, "a hello alone", x, 1, 1, false)
	ticks(t, "5", x, 1)
	tells(t, "silent", x, 0)
}

// P18.2: several at once, rising; who wasn't live isn't gone.
func TestGone(t *testing.T) {
	x := with(t, 3, 1, wide(), 7, 1, 0, 6, 4)
	for _, id := range []int{7, 0, 6, 1} {
		hear(t, x, id, 1)
	}
	hello(t, "7", x, 7, 8, true)
	hello(t, "0", x, 0, 8, true)
	hello(t, "1", x, 1, 8, true)
	tells(t, "three are live", x, 1<<7|1<<6|1<<1|1, 0, 1, 7)
	ticks(t, "1", x)
	hear(t, x, 1, 2)
	ticks(t, "2", x)
	hello(t, "0 doesn't hear", x, 0, 0, false)
	hello(t, "0 hears", x, 0, 8, true)
	ticks(t, "3", x, 0, 7)
	tells(t, "one is left", x, 1<<1, 1)
	ticks(t, "4", x, 1)
	ticks(t, "5", x)
}

// P18.2, P18.3: the time is one more each tick, up to MaxTick: then nothing is done.
func TestNow(t *testing.T) {
	x := with(t, 0, 1, wide(), 1)
	for now := range int64(20) {
		if x.Now() != now {
			t.Errorf("now: %d, not %d", x.Now(), now)
		}
		ticks(t, "tick", x)
	}
	r := wide()
	r.Rates.FramesTick, r.Rates.BlocksTick = 1, 1
	x = with(t, 0, 1, r, 1)
	x.now = api.MaxTick - 2 // no test lives as long
	hear(t, x, 1, 1)
	hello(t, "heard", x, 1, 1, true)
	ticks(t, "last but one", x)
	ticks(t, "last", x)
	hear(t, x, 1, 2)
	frames, blocks := x.Toll(1).Left()
	for range 5 {
		ticks(t, "behind the last", x)
		if x.Now() != 1<<40 {
			t.Errorf("now: %d", x.Now())
		}
		left(t, "behind the last", x, 1, frames, blocks)
		tells(t, "behind the last", x, 2, 1)
	}
	r.Dead = 2
	x = with(t, 0, 1, r, 1)
	x.now = api.MaxTick - 2
	hear(t, x, 1, 1)
	hello(t, "heard", x, 1, 1, true)
	ticks(t, "last but one", x)
	ticks(t, "gone by the last one", x, 1)
	tells(t, "gone by the last one", x, 0)
}
