package query

import (
	"fingerpost/api"
	"fingerpost/fib"
	"slices"
	"strings"
	"testing"
)

// names are the counters' names, as layer 24's chapter has them.
const names = "frames form strangers tolls tags replays hellos updates entries stale rootless proofs held taken renewals signs pieces sent broken"

// fake is a source that tells what it is told to.
type fake struct {
	hops     []fib.Hop
	floors   map[int]api.Key
	own      api.Key
	has      bool
	live     []int
	roots    map[int]int
	counters []int64
	now      int64
	boot     uint64
	dead     api.Errno
}

func (f *fake) Fib() []fib.Hop { return f.hops }
func (f *fake) Floor(dest int) (api.Key, bool) {
	k, ok := f.floors[dest]
	return k, ok
}
func (f *fake) Own() (api.Key, bool) { return f.own, f.has }
func (f *fake) Live() []int          { return f.live }
func (f *fake) Roots(dest int) int   { return f.roots[dest] }
func (f *fake) Counters() []int64    { return f.counters }
func (f *fake) Now() int64           { return f.now }
func (f *fake) Boot() uint64         { return f.boot }
func (f *fake) Dead() api.Errno      { return f.dead }

// full is a source of which there is something of all.
func full() *fake {
	return &fake{
		hops:     []fib.Hop{{Dest: 0, Next: 7, Metric: 15}, {Dest: 2, Next: 0, Metric: 1}, {Dest: 7, Next: 3, Metric: 2}},
		floors:   map[int]api.Key{0: {}, 2: {Epoch: 65536, Seq: 63, Metric: 15}, 7: {Epoch: 1, Seq: 5, Metric: 3}},
		own:      api.Key{Epoch: 4, Seq: 2},
		has:      true,
		live:     []int{0, 3, 7},
		roots:    map[int]int{0: 1, 2: 65537, 7: 12},
		counters: []int64{100, 0, 2, 0, 4, 0, 0, 0, 8, 0, 0, 0, 0, 0, 0, 0, 0, 1 << 62, -3},
		now:      1 << 40,
		boot:     1<<64 - 1,
		dead:     api.ErrDown,
	}
}

// empty is a source of which there is nothing.
func empty() *fake {
	return &fake{counters: make([]int64, 19)}
}

// answers holds a source to what is answered.
func answers(t *testing.T, s Source, q string, want ...string) {
	t.Helper()
	if got, e := Ask(s, q); e != api.OK || !slices.Equal(got, want) {
		t.Errorf("%q: %q, %d, not %q", q, got, e, want)
	}
}

// refuses holds a source to an error, beside which nothing is answered.
func refuses(t *testing.T, s Source, q string, want api.Errno) {
	t.Helper()
	if got, e := Ask(s, q); e != want || len(got) != 0 {
		t.Errorf("%q: %q, %d, not %d", q, got, e, want)
	}
}

func nameList() []string { return strings.Fields(names) }
