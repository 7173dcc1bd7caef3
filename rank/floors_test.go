package rank

import (
	"fingerpost/api"
	"math"
	"math/rand"
	"slices"
	"testing"
)

func raise(t *testing.T, f *Floors, dest int, k api.Key, want bool) {
	t.Helper()
	if up, e := f.Raise(dest, k); up != want || e != api.OK {
		t.Errorf("Raise(%d, %v): %v, %d", dest, k, up, e)
	}
}

// P1.4
func TestNewFloors(t *testing.T) {
	f := New()
	for _, dest := range []int{0, 1, 7, 8, -1, math.MaxInt, math.MinInt} {
		if k, ok := f.Get(dest); k != (api.Key{}) || ok {
			t.Errorf("Get(%d): %v, %v", dest, k, ok)
		}
		if !f.May(dest, key(0, 0, 15)) {
			t.Errorf("May(%d) is false", dest)
		}
	}
	if l := f.Dests(); len(l) != 0 {
		t.Errorf("Dests: %v", l)
	}
}

// P1.4
func TestRaise(t *testing.T) {
	f := New()
	raise(t, f, 3, key(1, 5, 2), true)
	raise(t, f, 3, key(1, 5, 2), false)
	raise(t, f, 3, key(1, 5, 3), false)
	raise(t, f, 3, key(1, 4, 0), false)
	raise(t, f, 3, key(0, 63, 0), false)
	if k, ok := f.Get(3); k != key(1, 5, 2) || !ok {
		t.Errorf("Get: %v, %v", k, ok)
	}
	for _, better := range []api.Key{key(1, 5, 1), key(1, 6, 15), key(2, 0, 15), key(65536, 63, 0)} {
		raise(t, f, 3, better, true)
		if k, ok := f.Get(3); k != better || !ok {
			t.Errorf("Get behind Raise to %v: %v, %v", better, k, ok)
		}
	}
	if _, ok := f.Get(2); ok {
		t.Error("another destination has a floor")
	}
}

// P1.4: the worst key of all, and the zero one, are floors, too.
func TestRaiseToTheWorst(t *testing.T) {
	f := New()
	raise(t, f, 0, key(0, 0, 15), true)
	raise(t, f, 7, api.Key{}, true)
	if k, ok := f.Get(0); k != key(0, 0, 15) || !ok {
		t.Errorf("Get(0): %v, %v", k, ok)
	}
	if k, ok := f.Get(7); k != (api.Key{}) || !ok {
		t.Errorf("Get(7): %v, %v", k, ok)
	}
}

// P1.4
func TestMay(t *testing.T) {
	f := New()
	floor := key(1, 5, 2)
	raise(t, f, 3, floor, true)
	for _, k := range append(rising(), floor) {
		if want := Compare(k, floor) >= 0; f.May(3, k) != want {
			t.Errorf("May(3, %v) isn't %v", k, want)
		}
		if !f.May(4, k) || !f.May(-1, k) || !f.May(8, k) {
			t.Errorf("%v may not be without a floor", k)
		}
	}
}

// P1.4
func TestDests(t *testing.T) {
	f := New()
	for _, dest := range []int{5, 0, 7, 2, 5} {
		f.Raise(dest, key(1, 0, 0))
	}
	l := f.Dests()
	if !slices.Equal(l, []int{0, 2, 5, 7}) {
		t.Errorf("Dests: %v", l)
	}
	// What was handed out is the caller's: neither it nor its spare room is the floors' own.
	l = l[:cap(l)]
	for i := range l {
		l[i] = 9
	}
	if l := f.Dests(); !slices.Equal(l, []int{0, 2, 5, 7}) {
		t.Errorf("Dests behind a turned list: %v", l)
	}
}

// P1.4, Errors: with an error nothing has changed.
func TestRaiseOfWrongArguments(t *testing.T) {
	f := New()
	raise(t, f, 0, key(1, 5, 2), true)
	for _, dest := range []int{-1, 8, math.MinInt, math.MaxInt} {
		if up, e := f.Raise(dest, key(9, 9, 9)); up || e != api.ErrArg {
			t.Errorf("Raise(%d): %v, %d", dest, up, e)
		}
		if _, ok := f.Get(dest); ok {
			t.Errorf("%d has a floor", dest)
		}
	}
	for _, dest := range []int{0, 1} {
		for _, k := range wrong() {
			if up, e := f.Raise(dest, k); up || e != api.ErrArg {
				t.Errorf("Raise(%d, %v): %v, %d", dest, k, up, e)
			}
		}
	}
	if k, ok := f.Get(0); k != key(1, 5, 2) || !ok || !slices.Equal(f.Dests(), []int{0}) {
		t.Errorf("floors behind errors: %v, %v, %v", k, ok, f.Dests())
	}
}

// P1.4, R1
func TestNilFloors(t *testing.T) {
	var f *Floors
	if k, ok := f.Get(1); k != (api.Key{}) || ok {
		t.Errorf("Get: %v, %v", k, ok)
	}
	if !f.May(1, api.Key{}) || !f.May(-1, key(0, 0, -1)) {
		t.Error("May is false")
	}
	if l := f.Dests(); len(l) != 0 {
		t.Errorf("Dests: %v", l)
	}
	for _, dest := range []int{1, -1} {
		for _, k := range []api.Key{{}, key(0, 64, 0)} {
			if up, e := f.Raise(dest, k); up || e != api.ErrNil {
				t.Errorf("Raise(%d, %v): %v, %d", dest, k, up, e)
			}
		}
	}
}

// R1: floors that nobody made panic neither.
func TestUnmadeFloors(t *testing.T) {
	f := &Floors{}
	f.Get(1)
	f.May(1, api.Key{})
	f.Dests()
	f.Raise(1, api.Key{})
}

// P1.5: against the plain list of all keys that were raised to.
func TestFloorsNeverFall(t *testing.T) {
	r := rand.New(rand.NewSource(1))
	for range 200 {
		f := New()
		var all [api.MaxNodes][]api.Key
		for range 100 {
			dest := r.Intn(api.MaxNodes+2) - 1
			k := key(uint32(r.Intn(3)), uint32(r.Intn(3)), r.Intn(5)-1)
			was, had := f.Get(dest)
			up, e := f.Raise(dest, k)
			if dest >= 0 && dest < api.MaxNodes && Right(k) {
				all[dest] = append(all[dest], k)
			} else if up || e != api.ErrArg {
				t.Fatalf("Raise(%d, %v): %v, %d", dest, k, up, e)
			}
			now, has := f.Get(dest)
			if had && (!has || Compare(now, was) < 0) || up != (now != was || has != had) {
				t.Fatalf("Raise(%d, %v): %v: from %v, %v to %v, %v", dest, k, up, was, had, now, has)
			}
			check(t, f, all)
		}
	}
}

func check(t *testing.T, f *Floors, all [api.MaxNodes][]api.Key) {
	t.Helper()
	var dests []int
	for dest, l := range all {
		k, ok := f.Get(dest)
		if ok != (len(l) > 0) || ok && k != slices.MaxFunc(l, Compare) {
			t.Fatalf("floor of %d: %v, %v; it was raised to %v", dest, k, ok, l)
		}
		if ok {
			dests = append(dests, dest)
		}
	}
	if !slices.Equal(f.Dests(), dests) {
		t.Fatalf("Dests: %v, not %v", f.Dests(), dests)
	}
}

// R5: one's floors are not another one's.
func TestFloorsStandAlone(t *testing.T) {
	f, g := New(), New()
	raise(t, f, 1, key(3, 0, 0), true)
	if _, ok := g.Get(1); ok {
		t.Error("a floor of another one's")
	}
	raise(t, g, 1, key(2, 0, 0), true)
	if k, _ := f.Get(1); k != key(3, 0, 0) {
		t.Errorf("floor: %v", k)
	}
}
