package count

import (
	"fingerpost/api"
	"maps"
	"math"
	"math/rand"
	"slices"
	"strings"
	"testing"
)

// P24.2: the numbers, and the names, of the chapter.
func TestNames(t *testing.T) {
	numbers := []int{Frames, Form, Strangers, Tolls, Tags, Replays, Hellos, Updates, Entries, Stale, Rootless, Proofs, Held, Taken, Renewals, Signs, Pieces, Sent, Broken}
	if Many != 19 || len(numbers) != Many || len(nameList()) != Many {
		t.Fatalf("%d counters", Many)
	}
	for which, name := range nameList() {
		if numbers[which] != which {
			t.Errorf("%s is %d", name, numbers[which])
		}
		if got := Name(which); got != name {
			t.Errorf("Name(%d): %q, not %q", which, got, name)
		}
		if got := Which(name); got != which {
			t.Errorf("Which(%q): %d, not %d", name, got, which)
		}
	}
}

// P24.2: of none there is no name, and of no name there is one.
func TestNoNames(t *testing.T) {
	for _, which := range noCounters {
		if got := Name(which); got != "" {
			t.Errorf("Name(%d): %q", which, got)
		}
	}
	l := []string{"", " ", "x", "many", "none", "0", "-1", "frames ", " frames", "frames=", "frames\x00", "\xff", inOrder, strings.Repeat("frames", 1000)}
	for _, name := range nameList() {
		l = append(l, name[1:], name[:len(name)-1], name+"s", strings.ToUpper(name), strings.ToUpper(name[:1])+name[1:])
	}
	for _, name := range l {
		if got := Which(name); got != -1 {
			t.Errorf("Which(%q): %d", name, got)
		}
	}
}

// P24.2: each error has the counter that the chapter tells, or none.
func TestOf(t *testing.T) {
	counted := map[api.Errno]int{
		api.ErrForm: 1, api.ErrShort: 1, api.ErrLimit: 1, api.ErrArg: 1, api.ErrTwice: 1,
		api.ErrPeer: 2, api.ErrToll: 3, api.ErrMac: 4, api.ErrReplay: 5,
		api.ErrOld: 9, api.ErrState: 9, api.ErrNone: 10, api.ErrProof: 11, api.ErrHold: 12, api.ErrSign: 15,
	}
	l := []api.Errno{math.MaxInt, math.MinInt, 1 << 32, 1<<32 + 24}
	for e := api.Errno(-100); e <= 300; e++ {
		l = append(l, e)
	}
	for _, e := range l {
		want, ok := counted[e]
		if !ok {
			want = -1
		}
		if got := Of(e); got != want {
			t.Errorf("Of(%d): %d, not %d", e, got, want)
		}
	}
}

func turned(t *testing.T, was, now []int64, want map[int]int64) {
	t.Helper()
	if got := Diff(was, now); !maps.Equal(got, want) {
		t.Errorf("Diff(%v, %v): %v, not %v", was, now, got, want)
	}
}

// P24.2
func TestDiff(t *testing.T) {
	turned(t, []int64{1, 2, 3}, []int64{1, 5, 2}, map[int]int64{1: 3, 2: -1})
	turned(t, []int64{1, 2, 3}, []int64{1, 2, 3}, nil)
	turned(t, []int64{0, 0}, []int64{0, 7}, map[int]int64{1: 7})
	turned(t, []int64{7}, []int64{0}, map[int]int64{0: -7})
	turned(t, []int64{-3, 3}, []int64{3, -3}, map[int]int64{0: 6, 1: -6})
}

// P24.2: as far as both lists go, however far that is; R4.
func TestDiffOfUnlikeLengths(t *testing.T) {
	turned(t, nil, nil, nil)
	turned(t, nil, []int64{1, 2}, nil)
	turned(t, []int64{1, 2}, []int64{}, nil)
	turned(t, []int64{1}, []int64{2, 3}, map[int]int64{0: 1})
	turned(t, []int64{1, 9, 9}, []int64{0, 10}, map[int]int64{0: -1, 1: 1})
	long := make([]int64, 1000)
	long[999] = 4
	turned(t, make([]int64, 2000), long, map[int]int64{999: 4})
	turned(t, long, make([]int64, 2000), map[int]int64{999: -4})
}

// P24.2: what is handed in is looked at no farther than it goes, and isn't changed; what is handed out may be filled.
func TestDiffLeavesLists(t *testing.T) {
	was, now := []int64{1, 2, 3}, []int64{4, 2, 9}
	turned(t, was[:2], now[:1], map[int]int64{0: 3})
	for _, got := range []map[int]int64{Diff(was, now), Diff(nil, nil), Diff(was, was)} {
		got[77] = 7
	}
	turned(t, was, now, map[int]int64{0: 3, 2: 6})
	if !slices.Equal(was, []int64{1, 2, 3}) || !slices.Equal(now, []int64{4, 2, 9}) {
		t.Errorf("%v, %v", was, now)
	}
}

// P24.2: as counters go round, what they turned by does, too.
func TestDiffGoesRound(t *testing.T) {
	turned(t, []int64{math.MaxInt64, math.MinInt64, 0, math.MinInt64}, []int64{math.MinInt64, math.MaxInt64, math.MinInt64, 0}, map[int]int64{0: 1, 1: -1, 2: math.MinInt64, 3: math.MinInt64})
	c := New()
	c.Add(Proofs, math.MaxInt64)
	was := c.All()
	c.Add(Proofs, 5)
	turned(t, was, c.All(), map[int]int64{Proofs: 5})
}

// P24.1, P24.2: what is counted between two readings is what they tell.
func TestDiffOfReadings(t *testing.T) {
	r := rand.New(rand.NewSource(242))
	c := New()
	for range 500 {
		was, want := c.All(), map[int]int64{}
		for range r.Intn(6) {
			which, more := r.Intn(Many), int64(1+r.Intn(9))
			is(t, "Add", c.Add(which, more), api.OK)
			want[which] += more
		}
		turned(t, was, c.All(), want)
	}
}
