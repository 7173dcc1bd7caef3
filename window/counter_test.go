package window

import (
	"fingerpost/api"
	"math"
	"math/rand"
	"testing"
)

func begun(t *testing.T, boot uint64) *Counter {
	t.Helper()
	c, e := Begin(boot)
	if c == nil || e != api.OK {
		t.Fatalf("Begin(%d): %v, %d", boot, c, e)
	}
	return c
}

func next(t *testing.T, c *Counter, boot, count uint64, want api.Errno) {
	t.Helper()
	if b, n, e := c.Next(); b != boot || n != count || e != want {
		t.Errorf("Next: %d, %d, %d, not %d, %d, %d", b, n, e, boot, count, want)
	}
}

func skip(t *testing.T, c *Counter, to uint64, want api.Errno) {
	t.Helper()
	if e := c.Skip(to); e != want {
		t.Errorf("Skip(%d): %d, not %d", to, e, want)
	}
}

// P2.2
func TestCounter(t *testing.T) {
	for _, boot := range []uint64{1, 3, math.MaxUint64} {
		c := begun(t, boot)
		next(t, c, boot, 1, api.OK)
		next(t, c, boot, 2, api.OK)
		next(t, c, boot, 3, api.OK)
	}
	if c, e := Begin(0); c != nil || e != api.ErrArg {
		t.Errorf("Begin(0): %v, %d", c, e)
	}
}

// P2.2
func TestSkip(t *testing.T) {
	c := begun(t, 3)
	skip(t, c, 0, api.OK)
	next(t, c, 3, 1, api.OK)
	skip(t, c, 1, api.OK)
	next(t, c, 3, 2, api.OK)
	skip(t, c, 1, api.ErrArg)
	skip(t, c, 0, api.ErrArg)
	next(t, c, 3, 3, api.OK)
	skip(t, c, 10, api.OK)
	skip(t, c, 9, api.ErrArg)
	next(t, c, 3, 11, api.OK)
}

// P2.2, Errors: behind the last number there is none, ever.
func TestSpent(t *testing.T) {
	c := begun(t, 3)
	skip(t, c, math.MaxUint64-1, api.OK)
	next(t, c, 3, math.MaxUint64, api.OK)
	for range 2 {
		next(t, c, 0, 0, api.ErrSpent)
		skip(t, c, math.MaxUint64-1, api.ErrArg)
		skip(t, c, math.MaxUint64, api.OK)
	}
	c = begun(t, 3)
	skip(t, c, math.MaxUint64, api.OK)
	next(t, c, 0, 0, api.ErrSpent)
}

// R1
func TestNilCounter(t *testing.T) {
	var c *Counter
	next(t, c, 0, 0, api.ErrNil)
	skip(t, c, 0, api.ErrNil)
	skip(t, c, 7, api.ErrNil)
}

// R1: a counter that nobody made panics neither.
func TestUnmadeCounter(t *testing.T) {
	c := &Counter{}
	c.Next()
	c.Skip(0)
	c.Skip(math.MaxUint64)
	c.Next()
}

// P2.3: what counters give, boot behind boot, comes in another order, some of it twice.
func TestCounterGoesIntoWindow(t *testing.T) {
	r := rand.New(rand.NewSource(3))
	for size := 1; size <= api.MaxWindow; size++ {
		w := made(t, size)
		for boot := uint64(1); boot <= 3; boot++ {
			c := begun(t, boot)
			if boot == 3 {
				skip(t, c, math.MaxUint64-uint64(4*size), api.OK)
			}
			for range 4 {
				// A block of size, in any order, lies within size of its highest.
				counts := make([]uint64, size)
				for i := range counts {
					_, counts[i], _ = c.Next()
				}
				r.Shuffle(size, func(i, j int) { counts[i], counts[j] = counts[j], counts[i] })
				for _, n := range counts {
					take(t, w, boot, n, api.OK)
					take(t, w, boot, n, api.ErrReplay)
				}
				for _, n := range counts {
					take(t, w, boot, n, api.ErrReplay)
				}
			}
		}
		top(t, w, 3, math.MaxUint64)
	}
}
