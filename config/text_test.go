package config

import (
	"math"
	"math/rand"
	"strconv"
	"testing"
)

// written is a text of rules as the chapter's words tell it, of the numbers of its rows.
func written(numbers []int) string {
	var text string
	for at, x := range table() {
		text += x.name + " " + strconv.FormatInt(int64(numbers[at]), 10) + "\n"
	}
	return text
}

// of are rules of such numbers.
func of(numbers []int) Rules {
	var r Rules
	for at, x := range table() {
		x.set(&r, numbers[at])
	}
	return r
}

// P23.2
func TestText(t *testing.T) {
	want := "width 4\nsteps 6\nheight 3\ndead 4\nwindow 32\nframes 200\nframes-tick 60\nblocks 20000\nblocks-tick 6000\nhold 6\nlife 60\nperiod 10\nsettle 2\nmost 700\nrotate 20\n"
	if got := Text(usual()); got != want {
		t.Errorf("%q", got)
	}
	want = "width 0\nsteps 0\nheight 0\ndead 0\nwindow 0\nframes 0\nframes-tick 0\nblocks 0\nblocks-tick 0\nhold 0\nlife 0\nperiod 0\nsettle 0\nmost 0\nrotate 0\n"
	if got := Text(Rules{}); got != want {
		t.Errorf("%q", got)
	}
}

// P23.2: whatever the numbers are.
func TestTextOfAnyNumbers(t *testing.T) {
	random := rand.New(rand.NewSource(23))
	ends := []int{math.MinInt, math.MaxInt, -1, 0, 1, -10, 1 << 62}
	for round := range 1000 {
		numbers := make([]int, 15)
		for at := range numbers {
			numbers[at] = int(random.Uint64()) >> random.Intn(64)
			if round < len(ends) {
				numbers[at] = ends[round]
			}
		}
		if got, want := Text(of(numbers)), written(numbers); got != want {
			t.Fatalf("%q, not %q", got, want)
		}
	}
}

// P23.3: each number at its edges, and all of them at random.
func TestReadBack(t *testing.T) {
	tells(t, Text(Default()), usual())
	for _, x := range table() {
		for _, n := range edges(x) {
			if x.may(n) {
				tells(t, Text(with(x, n)), with(x, n))
			}
		}
	}
	random := rand.New(rand.NewSource(233))
	for range 2000 {
		numbers := make([]int, 15)
		for at, x := range table() {
			numbers[at] = x.least + random.Intn(x.greatest-x.least+1)
		}
		numbers[0] = 1 << random.Intn(4)
		r := of(numbers)
		checks(t, r, "")
		tells(t, Text(r), r)
	}
}

// P23.3: rules that may not be aren't read back.
func TestNotReadBack(t *testing.T) {
	for _, x := range table() {
		for _, n := range edges(x) {
			if x.may(n) {
				continue
			}
			if r, m := Parse(Text(with(x, n))); r != (Rules{}) || m.Name != x.name {
				t.Errorf("%s, %d: %v, %v", x.name, n, r, m)
			}
		}
	}
}
