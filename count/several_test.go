package count

import (
	"fingerpost/api"
	"sync"
	"testing"
)

// P24.1, R5: counters are counted by several at once, and nothing is lost.
func TestSeveralAtOnce(t *testing.T) {
	const workers, rounds = 8, 3000
	c := New()
	var all sync.WaitGroup
	for n := range workers {
		all.Go(func() {
			for round := range rounds {
				which := (round + n) % Many
				if e := c.Bump(which); e != api.OK {
					t.Errorf("Bump: %d", e)
				}
				if e := c.Add(Frames, int64(n)); e != api.OK {
					t.Errorf("Add: %d", e)
				}
				if was, now := c.Get(which), c.Get(which); was < 1 || now < was {
					t.Errorf("%d, and then %d", was, now)
				}
				if len(c.All()) != Many || c.Text() == "" {
					t.Error("nothing is told")
				}
			}
		})
	}
	all.Wait()
	var sum int64
	for _, n := range c.All() {
		sum += n
	}
	if want := int64(workers*rounds + rounds*workers*(workers-1)/2); sum != want {
		t.Errorf("%d, not %d", sum, want)
	}
}
