package build

import (
	"bytes"
	"fingerpost/api"
	"fingerpost/frame"
	"math"
	"math/rand"
	"slices"
	"testing"
)

// P21.2: as many as fit, and one at least.
func TestUpdates(t *testing.T) {
	// Of 25, 41, 57 and 25 bytes.
	l := []frame.Entry{sized(0, 0, 0), sized(2, 1, 0), sized(5, 0, 2), sized(7, 0, 0)}
	cut(t, "all", l, 150, 4)
	cut(t, "all", l, 151, 4)
	cut(t, "all", l, math.MaxInt, 4)
	cut(t, "a byte too few", l, 149, 3, 1)
	cut(t, "three", l, 125, 3, 1)
	cut(t, "a byte too few", l, 124, 2, 2)
	cut(t, "two and two", l, 84, 2, 2)
	cut(t, "the third one stands alone", l, 83, 2, 1, 1)
	cut(t, "two", l, 68, 2, 1, 1)
	cut(t, "a byte too few", l, 67, 1, 1, 1, 1)
	for _, most := range []int{59, 58, 43, 27, 26, 1, 0, -1, -2, math.MinInt} {
		cut(t, "each alone, however long it is", l, most, 1, 1, 1, 1)
	}
	// The greatest update that there is.
	var whole []frame.Entry
	for dest := range 8 {
		whole = append(whole, sized(dest, 3, 6))
	}
	cut(t, "8", whole, 2+8*169, 8)
	cut(t, "7", whole, 2+8*169-1, 7, 1)
	cut(t, "3", whole, 2+4*169-1, 3, 3, 2)
}

// P21.2: an update has one entry at least.
func TestUpdatesOfNothing(t *testing.T) {
	for _, most := range []int{math.MinInt, -1, 0, 1, 2, 100, math.MaxInt} {
		cut(t, "nil", nil, most)
		cut(t, "empty", []frame.Entry{}, most)
	}
}

// P21.2: what comes behind goes into the next one, even if it would have fitted into the one ahead.
func TestUpdatesKeepOrder(t *testing.T) {
	l := []frame.Entry{sized(1, 0, 0), sized(2, 3, 6), sized(3, 0, 0), sized(4, 0, 0), sized(6, 3, 6)}
	cut(t, "in order", l, 100, 1, 1, 2, 1)
	cut(t, "in order", l, 196, 2, 2, 1)
	cut(t, "in order", l, 221, 3, 2)
	got := Updates(l, true, 196)
	for at, part := range [][]frame.Entry{l[:2], l[2:4], l[4:]} {
		want, e := frame.PutUpdate(frame.Update{Full: true, Entries: part})
		if e != api.OK || !bytes.Equal(got[at], want) {
			t.Errorf("%d: %x, not %x", at, got[at], want)
		}
	}
}

// P21.2: an update that may not be counts as one of no bytes: it takes all that follows, and is left out at last; if most is below none, only the entry itself.
func TestUpdatesThatMayNotBe(t *testing.T) {
	a, b, c, d := sized(0, 0, 0), sized(1, 0, 0), sized(6, 0, 0), sized(7, 0, 0)
	for _, x := range wrongEntries() {
		for _, most := range []int{0, 1, 26, 52, 77, 1000, math.MaxInt} {
			cut(t, "alone", []frame.Entry{x}, most)
			cut(t, "ahead", []frame.Entry{x, c, d}, most)
		}
		cut(t, "each alone, last", []frame.Entry{a, b, x}, 51, 1)
		cut(t, "two, last", []frame.Entry{a, b, x}, 52)
		cut(t, "between, behind one", []frame.Entry{a, b, x, c, d}, 51, 1)
		cut(t, "between, behind two", []frame.Entry{a, b, x, c, d}, 52)
		cut(t, "between, all", []frame.Entry{a, b, x, c, d}, 1000)
		for _, most := range []int{-1, -2, math.MinInt} {
			cut(t, "by itself", []frame.Entry{a, x, c, d}, most, 1, 1, 1)
		}
	}
}

// P21.2: entries that don't rise, and too many of them, may not be in one update, but in several.
func TestUpdatesThatDoNotRise(t *testing.T) {
	a, b := sized(2, 0, 0), sized(5, 0, 0)
	cut(t, "alike", []frame.Entry{a, a}, 1000)
	cut(t, "falling", []frame.Entry{b, a}, 1000)
	cut(t, "falling, too long", []frame.Entry{b, a}, 0)
	cut(t, "falling, by themselves", []frame.Entry{b, a}, -1, 1, 1)
	cut(t, "behind one that is full", []frame.Entry{a, b, a, b}, 52)
	cut(t, "behind one that has no room", []frame.Entry{a, b, a}, 51, 1)
	var many []frame.Entry
	for at := range 1000 {
		many = append(many, sized(at%8, 0, 0))
	}
	cut(t, "nine", many[:9], 1000)
	cut(t, "eight and eight", many[:16], 2+8*25)
	cut(t, "seven and nine", many[:16], 2+7*25, 7)
	cut(t, "many", many, 1000)
	cut(t, "each alone", many[:20], -1, slices.Repeat([]int{1}, 20)...)
}

// chopped are the updates as the chapter's words tell it: each is one entry, and the next ones up to the first with which it is too long.
func chopped(l []frame.Entry, most int) [][]frame.Entry {
	var all [][]frame.Entry
	for begin := 0; begin < len(l); {
		end := len(l)
		for at := begin + 1; at < len(l); at++ {
			if updateSize(l[begin:at+1]) > most {
				end = at
				break
			}
		}
		if updateSize(l[begin:end]) > 0 {
			all = append(all, l[begin:end])
		}
		begin = end
	}
	return all
}

// P21.2: against the model, of entries some of which may not be.
func TestUpdatesAgainstModel(t *testing.T) {
	r := rand.New(rand.NewSource(212))
	wrong, left := wrongEntries(), 0
	for range 5000 {
		var l []frame.Entry
		for dest := range 8 {
			switch n := r.Intn(40); {
			case n == 0:
				l = append(l, wrong[r.Intn(len(wrong))])
			case n == 1:
				l = append(l, sized(r.Intn(8), 0, 0))
			case n < 30:
				l = append(l, sized(dest, r.Intn(4), r.Intn(7)))
			}
		}
		most, full := r.Intn(600)-10, r.Intn(2) == 0
		got, want := Updates(l, full, most), chopped(l, most)
		if len(got) != len(want) {
			t.Fatalf("%d: %d updates, not %d, of %v", most, len(got), len(want), l)
		}
		for at, b := range got {
			u, e := frame.GetUpdate(b)
			if e != api.OK || u.Full != full || !slices.EqualFunc(u.Entries, want[at], sameEntry) || len(b) != updateSize(want[at]) {
				t.Fatalf("%d, %d: %v, %d, not %v", most, at, u, e, want[at])
			}
			if len(b) > most && len(u.Entries) > 1 {
				t.Fatalf("%d: %d bytes of %d entries", most, len(b), len(u.Entries))
			}
			left -= len(u.Entries)
		}
		left += len(l)
	}
	if left < 1000 {
		t.Errorf("%d entries left out", left)
	}
}

// P21.4: all entries that may be told are told, once, in order.
func TestAllIsTold(t *testing.T) {
	r := rand.New(rand.NewSource(214))
	for range 2000 {
		var l []frame.Entry
		for dest := range 8 {
			if r.Intn(3) > 0 {
				l = append(l, sized(dest, r.Intn(4), r.Intn(7)))
			}
		}
		most := r.Intn(1500) - 20
		var told []frame.Entry
		for _, b := range Updates(l, false, most) {
			u, e := frame.GetUpdate(b)
			if e != api.OK || len(u.Entries) == 0 {
				t.Fatalf("%v, %d", u, e)
			}
			told = append(told, u.Entries...)
		}
		tells(t, "told", told, l...)
	}
}

// R3: the entries aren't changed nor kept, and no two updates share memory.
func TestUpdatesAreNew(t *testing.T) {
	l := []frame.Entry{sized(0, 1, 2), sized(2, 1, 0), sized(5, 0, 2), {Dest: -1}}
	was := slices.Clone(l)
	want := Updates(l[:3:4], true, 60)
	if len(want) != 3 {
		t.Fatalf("%d updates", len(want))
	}
	got := Updates(l[:3:4], true, 60)
	tells(t, "entries", l, was...)
	for at := range got {
		fill(got[at], 0xee)
		for other := range got {
			if other > at && !bytes.Equal(got[other], want[other]) {
				t.Errorf("%d shares memory with %d", other, at)
			}
		}
	}
	fill(got, nil)
	tells(t, "entries", l, sized(0, 1, 2), sized(2, 1, 0), sized(5, 0, 2), frame.Entry{Dest: -1})
}
