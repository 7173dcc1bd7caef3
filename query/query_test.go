package query

import (
	"fingerpost/api"
	"fingerpost/config"
	"fingerpost/fib"
	"fingerpost/router"
	"fingerpost/slate"
	"math"
	"reflect"
	"slices"
	"strconv"
	"testing"
)

// begun is a router that just began.
func begun(t *testing.T) (*router.Router, *slate.Slate) {
	t.Helper()
	d, _ := slate.New(2000)
	s := router.Setup{Self: 1, Rules: router.Rules(config.Default()), Keys: make([]api.Sum, 4), Links: []router.Link{{Id: 0}}}
	s.Keys[1] = router.Public(s.Seed, 1)
	r, e := router.New(s, d)
	if e != api.OK {
		t.Fatalf("router.New: %d", e)
	}
	return r, d
}

// P26.1: the chapter's example, and what a router tells behind that.
func TestExample(t *testing.T) {
	r, _ := begun(t)
	answers(t, r, "now", "0")
	answers(t, r, "own", "none")
	answers(t, r, "counters", "none")
	refuses(t, r, "next 9", api.ErrWord)
	answers(t, r, "fib")
	answers(t, r, "boot", "1")
	answers(t, r, "dead", "0")
	r.Tick()
	r.Take([]byte{1})
	answers(t, r, "now", "1")
	answers(t, r, "own", "0.0/0")
	answers(t, r, "roots 1", "1")
	answers(t, r, "roots 0", "0")
	answers(t, r, "counters", "frames=1 form=1 sent=1")
	answers(t, r, "counter sent", "1")
	answers(t, r, "counter tags", "0")
}

// P26.1: what a router that is dead tells.
func TestDead(t *testing.T) {
	r, d := begun(t)
	d.Fuse(0)
	r.Tick()
	answers(t, r, "dead", "5")
	answers(t, r, "own", "none")
	answers(t, r, "counter broken", "1")
	answers(t, r, "counters", "broken=1")
	answers(t, r, "boot", "1")
}

// P26.1: each question, of what there is.
func TestAsk(t *testing.T) {
	s := full()
	answers(t, s, "fib", "0 by 7 metric 15", "2 by 0 metric 1", "7 by 3 metric 2")
	answers(t, s, "next 0", "7")
	answers(t, s, "next 2", "0")
	answers(t, s, "next 7", "3")
	answers(t, s, "next 1", "none")
	answers(t, s, "floor 0", "0.0/0")
	answers(t, s, "floor 2", "65536.63/15")
	answers(t, s, "floor 7", "1.5/3")
	answers(t, s, "floor 3", "none")
	answers(t, s, "roots 0", "1")
	answers(t, s, "roots 2", "65537")
	answers(t, s, "roots 7", "12")
	answers(t, s, "roots 6", "0")
	answers(t, s, "own", "4.2/0")
	answers(t, s, "live", "0 3 7")
	answers(t, s, "counters", "frames=100 strangers=2 tags=4 entries=8 sent=4611686018427387904 broken=-3")
	answers(t, s, "now", "1099511627776")
	answers(t, s, "boot", "18446744073709551615")
	answers(t, s, "dead", "5")
	for which, name := range nameList() {
		answers(t, s, "counter "+name, strconv.FormatInt(s.counters[which], 10))
	}
	s.live = []int{4}
	answers(t, s, "live", "4")
	s.counters = []int64{18: 1}
	answers(t, s, "counters", "broken=1")
}

// P26.1: each question, of what there isn't.
func TestAskOfNothing(t *testing.T) {
	s := empty()
	answers(t, s, "fib")
	for _, q := range []string{"own", "live", "counters"} {
		answers(t, s, q, "none")
	}
	for dest := range 8 {
		d := strconv.Itoa(dest)
		answers(t, s, "next "+d, "none")
		answers(t, s, "floor "+d, "none")
		answers(t, s, "roots "+d, "0")
	}
	for _, name := range nameList() {
		answers(t, s, "counter "+name, "0")
	}
	for _, q := range []string{"now", "boot", "dead"} {
		answers(t, s, q, "0")
	}
	// A key beside which there is none isn't told.
	s.own = api.Key{Epoch: 3}
	answers(t, s, "own", "none")
}

// P26.1: numbers below 0 are told with a minus.
func TestAskBelowZero(t *testing.T) {
	s := empty()
	s.hops = []fib.Hop{{Dest: 1, Next: 2, Metric: -9}}
	s.live, s.now, s.dead, s.roots = []int{-1, 2}, math.MinInt64, -7, map[int]int{3: -2}
	s.counters[4], s.counters[5] = math.MinInt64, math.MaxInt64
	answers(t, s, "fib", "1 by 2 metric -9")
	answers(t, s, "live", "-1 2")
	answers(t, s, "now", "-9223372036854775808")
	answers(t, s, "dead", "-7")
	answers(t, s, "roots 3", "-2")
	answers(t, s, "counters", "tags=-9223372036854775808 replays=9223372036854775807")
	answers(t, s, "counter tags", "-9223372036854775808")
}

// Errors: what is no question, of whatever there is.
func TestNoQuestion(t *testing.T) {
	for _, q := range []string{
		"", " ", "  ", "what", "Fib", "FIB", "fi", "fibs", "none", "ask",
		"fib ", " fib", "fib 0", "fib  ", "fib\n", "fib\t0", "own 0", "live 1", "counters frames", "now 0", "boot ", "dead 0",
		"next", "floor", "roots", "counter", "next ", "floor ", "roots ", "counter ", "next  0", " next 0", "next 0 ", "next 0 0",
		"next 8", "next 9", "floor 8", "roots 8", "next -1", "next 00", "next 01", "next 10", "next a", "next /", "next :", "next +0", "next 0\n", "next\t0", "next\u00a00", "next \u0660", "roots none", "floor fib",
		"counter Frames", "counter frame", "counter 0", "counter frames ", "counter  frames", "counter frames form", "counter none", "counters ", "counter\tframes",
		"tags", "frames", "0", "7", "\x00", "\xff", "next \xff",
	} {
		refuses(t, full(), q, api.ErrWord)
		refuses(t, empty(), q, api.ErrWord)
	}
}

// Errors: no source comes ahead of no question.
func TestNoSource(t *testing.T) {
	for _, q := range []string{"fib", "now", "next 0", "counter tags", "what", ""} {
		refuses(t, nil, q, api.ErrNil)
	}
	if l, e := Status(nil); e != api.ErrNil || len(l) != 0 {
		t.Errorf("Status: %q, %d", l, e)
	}
}

// R1: a router that there isn't tells what layer 25 says of it.
func TestNilRouter(t *testing.T) {
	var r *router.Router
	answers(t, r, "fib")
	answers(t, r, "own", "none")
	answers(t, r, "counters", "none")
	answers(t, r, "dead", "2")
	answers(t, r, "counter broken", "0")
	refuses(t, r, "next", api.ErrWord)
}

// R1: a source that falls over when it is asked.
func TestFallenSource(t *testing.T) {
	for _, s := range []Source{(*fake)(nil), struct{ Source }{}} {
		for _, q := range append(All(), "next 1", "floor 1", "roots 1", "counter form") {
			refuses(t, s, q, api.ErrNil)
		}
		if l, e := Status(s); e != api.ErrNil || len(l) != 0 {
			t.Errorf("Status: %q, %d", l, e)
		}
	}
}

// R1: a source of too few counters, or too many.
func TestStrangeCounters(t *testing.T) {
	s := empty()
	for _, l := range [][]int64{nil, {}, {7}, make([]int64, 18)} {
		s.counters = l
		answers(t, s, "counter broken", "0")
	}
	answers(t, s, "counters", "none")
	s.counters = []int64{7}
	answers(t, s, "counters", "frames=7")
	s.counters = []int64{18: 5, 19: 6, 40: 7}
	answers(t, s, "counters", "broken=5")
}

// P26.2
func TestAll(t *testing.T) {
	want := []string{"fib", "own", "live", "counters", "now", "boot", "dead"}
	for range 2 {
		l := All()
		if !slices.Equal(l, want) {
			t.Errorf("All: %q", l)
		}
		clear(l)
	}
}

// P26.2
func TestStatus(t *testing.T) {
	l, e := Status(full())
	want := []string{
		"fib: 0 by 7 metric 15", "fib: 2 by 0 metric 1", "fib: 7 by 3 metric 2",
		"own: 4.2/0",
		"live: 0 3 7",
		"counters: frames=100 strangers=2 tags=4 entries=8 sent=4611686018427387904 broken=-3",
		"now: 1099511627776",
		"boot: 18446744073709551615",
		"dead: 5",
	}
	if e != api.OK || !slices.Equal(l, want) {
		t.Errorf("Status: %q, %d", l, e)
	}
	l, e = Status(empty())
	want = []string{"own: none", "live: none", "counters: none", "now: 0", "boot: 0", "dead: 0"}
	if e != api.OK || !slices.Equal(l, want) {
		t.Errorf("Status of nothing: %q, %d", l, e)
	}
}

// R3, R5: a source is left as it was, and answers the same again.
func TestAsksChangeNothing(t *testing.T) {
	s := full()
	was, _ := Status(s)
	if !reflect.DeepEqual(s, full()) {
		t.Error("Status turned its source")
	}
	clear(was)
	again, _ := Status(s)
	fresh, _ := Status(full())
	if !slices.Equal(again, fresh) {
		t.Errorf("%q, not %q", again, fresh)
	}
}
