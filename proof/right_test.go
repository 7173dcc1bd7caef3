package proof

import (
	"fingerpost/ladder"
	"fingerpost/spring"
	"math"
	"testing"
)

// P9.1
func TestRight(t *testing.T) {
	for _, r := range allRules() {
		for dest := range r.Width {
			for _, epoch := range []uint32{0, 1, 1<<16 - 1, 1 << 16} {
				each(r, dest, epoch, func(c Claim) {
					if !Right(r, c) {
						t.Errorf("Right(%v, %v): false", r, c)
					}
				})
			}
		}
		for _, c := range wrongClaims(r) {
			if Right(r, c) {
				t.Errorf("Right(%v, %v): true", r, c)
			}
		}
	}
	for _, r := range noRules() {
		for _, c := range []Claim{{}, claimed(1, 1, 1, 1, 1), claimed(0, 0, 0, -1, 0), claimed(-1, 0, 0, 0, -1), claimed(-5, 0, 0, -1, -5)} {
			if Right(r, c) {
				t.Errorf("Right(%v, %v): true", r, c)
			}
		}
	}
}

// P9.1: blocks that were counted by hand.
func TestKnownCosts(t *testing.T) {
	for _, x := range []struct {
		r            numbers
		metric, want int
	}{
		{numbers{4, 3, 1}, 0, 2 + 7 + 7 + 1}, {numbers{4, 3, 1}, 1, 2 + 7 + 1}, {numbers{4, 3, 1}, 2, 2 + 1},
		{numbers{8, 16, 6}, 0, 3 + 15*15 + 6}, {numbers{8, 16, 6}, 15, 3 + 6}, {numbers{1, 1, 0}, 0, 0},
		{numbers{1, 1, 6}, 0, 6}, {numbers{1, 16, 0}, 0, 15}, {numbers{2, 2, 0}, 0, 1 + 3},
		{numbers{4, 3, 1}, 3, 0}, {numbers{4, 3, 1}, -1, 0},
	} {
		if got := Cost(x.r.rules(), x.metric); got != x.want {
			t.Errorf("Cost(%v, %d): %d, not %d", x.r, x.metric, got, x.want)
		}
	}
	if got := Worst(numbers{4, 6, 3}.rules()); got != 2+5*7+3 {
		t.Errorf("Worst: %d", got)
	}
}

// climbCost is what the rungs from one on, below another one, cost to climb, and the rise ahead of them.
func climbCost(r spring.Rules, first, last int) int {
	cost := ladder.RiseCost(r.Width)
	for rung := first; rung < last; rung++ {
		cost += ladder.UpCost(r.Width)
	}
	return cost
}

var far = []int{-1, -2, 17, 18, 256, 1 << 32, math.MaxInt, math.MaxInt - 1, math.MinInt, math.MinInt + 1}

// P9.1
func TestCost(t *testing.T) {
	for _, r := range allRules() {
		worst := 0
		for metric := range r.Steps {
			want := climbCost(r, metric+1, r.Steps) + r.Height
			worst = max(worst, want)
			if got := Cost(r, metric); got != want {
				t.Errorf("Cost(%v, %d): %d, not %d", r, metric, got, want)
			}
		}
		if got := Worst(r); got != worst || got != Cost(r, 0) {
			t.Errorf("Worst(%v): %d, not %d", r, got, worst)
		}
		for _, metric := range append(far, r.Steps, r.Steps+1) {
			if got := Cost(r, metric); got != 0 {
				t.Errorf("Cost(%v, %d): %d", r, metric, got)
			}
		}
	}
}

// P9.4
func TestQuickCost(t *testing.T) {
	for _, r := range allRules() {
		l := append(far, -3)
		for n := range r.Steps + 3 {
			l = append(l, n)
		}
		for _, from := range l {
			for _, to := range l {
				want := 0
				if 0 <= from && from < to && to <= r.Steps {
					want = climbCost(r, from+1, to)
				}
				if got := QuickCost(r, from, to); got != want {
					t.Errorf("QuickCost(%v, %d, %d): %d, not %d", r, from, to, got, want)
				}
			}
		}
	}
}

// P9.1, P9.4
func TestCostsOfNoRules(t *testing.T) {
	for _, r := range noRules() {
		for _, from := range append(far, 0, 1, 2, 5) {
			if Cost(r, from) != 0 || Worst(r) != 0 {
				t.Errorf("Cost(%v, %d): %d, %d", r, from, Cost(r, from), Worst(r))
			}
			for _, to := range append(far, 0, 1, 2, 5, 6) {
				if got := QuickCost(r, from, to); got != 0 {
					t.Errorf("QuickCost(%v, %d, %d): %d", r, from, to, got)
				}
			}
		}
	}
}
