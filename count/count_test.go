package count

import (
	"fingerpost/api"
	"math"
	"math/rand"
	"slices"
	"strconv"
	"strings"
	"testing"
)

// inOrder are the counters' names, as the chapter has them.
const inOrder = "frames, form, strangers, tolls, tags, replays, hellos, updates, entries, stale, rootless, proofs, held, taken, renewals, signs, pieces, sent, broken"

// noCounters are the numbers of none.
var noCounters = []int{-1, 19, 20, 99, -19, math.MaxInt, math.MinInt, 1 << 32, 1<<32 + 4}

func nameList() []string { return strings.Split(inOrder, ", ") }

func is(t *testing.T, what string, e, want api.Errno) {
	t.Helper()
	if e != want {
		t.Errorf("%s: %d, not %d", what, e, want)
	}
}

// reads holds counters to what each of them is, and to the text of that.
func reads(t *testing.T, what string, c *Counters, want []int64) {
	t.Helper()
	var told []string
	for which, n := range want {
		if got := c.Get(which); got != n {
			t.Errorf("%s: Get(%d): %d, not %d", what, which, got, n)
		}
		if n != 0 {
			told = append(told, nameList()[which]+"="+strconv.FormatInt(n, 10))
		}
	}
	if got := c.All(); !slices.Equal(got, want) {
		t.Errorf("%s: All: %v, not %v", what, got, want)
	}
	if got := c.Text(); got != strings.Join(told, " ") {
		t.Errorf("%s: Text: %q, not %q", what, got, told)
	}
}

// P24.1: the chapter's example.
func TestExample(t *testing.T) {
	c := New()
	is(t, "Bump(Tags)", c.Bump(Tags), api.OK)
	is(t, "Add(Frames, 2)", c.Add(Frames, 2), api.OK)
	if got := c.Text(); got != "frames=2 tags=1" {
		t.Errorf("%q", got)
	}
	if got := Of(api.ErrMac); got != 4 {
		t.Errorf("Of(ErrMac): %d", got)
	}
}

// P24.1: all counters are 0 at first, and each is counted by itself.
func TestEach(t *testing.T) {
	reads(t, "New", New(), make([]int64, 19))
	all, want := New(), make([]int64, 19)
	for which := range 19 {
		c, one := New(), make([]int64, 19)
		is(t, "Bump", c.Bump(which), api.OK)
		one[which] = 1
		reads(t, "Bump", c, one)
		is(t, "Add", c.Add(which, 0), api.OK)
		reads(t, "none more", c, one)
		is(t, "Add", c.Add(which, 1000), api.OK)
		one[which] = 1001
		reads(t, "Add", c, one)
		want[which] = int64(which*which + 1)
		is(t, "Add", all.Add(which, want[which]), api.OK)
	}
	reads(t, "all", all, want)
	reads(t, "another one", New(), make([]int64, 19))
}

// P24.1: in any order, against sums.
func TestAnyOrder(t *testing.T) {
	r := rand.New(rand.NewSource(24))
	for range 50 {
		c, want := New(), make([]int64, 19)
		for range 300 {
			which, more := r.Intn(19), r.Int63()>>r.Intn(63)
			if r.Intn(2) == 0 {
				more = 1
				is(t, "Bump", c.Bump(which), api.OK)
			} else {
				is(t, "Add", c.Add(which, more), api.OK)
			}
			want[which] += more
		}
		reads(t, "any order", c, want)
	}
}

// P24.1: modulo 2^64; a counter behind the end is told with a -.
func TestRound(t *testing.T) {
	c, want := New(), make([]int64, 19)
	is(t, "Add", c.Add(Sent, math.MaxInt64), api.OK)
	want[Sent] = math.MaxInt64
	reads(t, "the greatest", c, want)
	is(t, "Bump", c.Bump(Sent), api.OK)
	want[Sent] = math.MinInt64
	reads(t, "one more", c, want)
	if got := c.Text(); got != "sent=-9223372036854775808" {
		t.Errorf("%q", got)
	}
	is(t, "Add", c.Add(Sent, math.MaxInt64), api.OK)
	want[Sent] = -1
	reads(t, "as much again", c, want)
	if got := c.Text(); got != "sent=-1" {
		t.Errorf("%q", got)
	}
	is(t, "Bump", c.Bump(Sent), api.OK)
	reads(t, "all round", c, make([]int64, 19))
	is(t, "Bump", c.Bump(Sent), api.OK)
	want[Sent] = 1
	reads(t, "and on", c, want)
}

// Errors: with one nothing is counted.
func TestWrong(t *testing.T) {
	c, want := New(), make([]int64, 19)
	for which := range want {
		want[which] = int64(which + 1)
		c.Add(which, want[which])
	}
	for _, which := range noCounters {
		is(t, "Bump", c.Bump(which), api.ErrArg)
		for _, more := range []int64{0, 1, -1, math.MaxInt64, math.MinInt64} {
			is(t, "Add", c.Add(which, more), api.ErrArg)
		}
		if got := c.Get(which); got != 0 {
			t.Errorf("Get(%d): %d", which, got)
		}
	}
	for which := range 19 {
		for _, more := range []int64{-1, -2, math.MinInt64, math.MinInt64 + 1} {
			is(t, "Add", c.Add(which, more), api.ErrArg)
		}
	}
	reads(t, "errors", c, want)
}

// R1, P24.1: nil counters have 19 zeros.
func TestNil(t *testing.T) {
	var c *Counters
	for _, which := range append([]int{0, 4, 18}, noCounters...) {
		is(t, "Bump", c.Bump(which), api.ErrNil)
		is(t, "Add", c.Add(which, 1), api.ErrNil)
		is(t, "Add", c.Add(which, -1), api.ErrNil)
		if got := c.Get(which); got != 0 {
			t.Errorf("Get(%d): %d", which, got)
		}
	}
	reads(t, "nil", c, make([]int64, 19))
}

// R3: all counters are told anew each time.
func TestAllIsNew(t *testing.T) {
	for _, c := range []*Counters{New(), nil} {
		c.Add(Held, 5)
		want, got := c.All(), c.All()
		got = got[:cap(got)]
		for at := range got {
			got[at] = -7
		}
		reads(t, "overwritten", c, want)
	}
}
