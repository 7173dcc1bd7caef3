package frame

import (
	"bytes"
	"fingerpost/api"
	"fingerpost/proof"
	"math"
	"math/rand"
	"testing"
)

// entry is one of a destination, with so many sums.
func entry(dest, way, path int) Entry {
	k := api.Key{Epoch: uint32(dest) * 9000, Seq: uint32(dest) * 9, Metric: dest * 2}
	return Entry{dest, k, proof.Cred{Leaf: some(dest), Way: sums(10*dest, way), Path: sums(100*dest, path)}}
}

// rightUpdates have from none to all destinations, and the least and the greatest numbers.
func rightUpdates() []Update {
	l := []Update{{}, {Full: true}}
	for many := 1; many <= 8; many++ {
		u := Update{Full: many%2 == 0}
		for dest := range many {
			u.Entries = append(u.Entries, entry(dest, (dest+many)%4, (dest+many)%7))
		}
		l = append(l, u)
	}
	for dest := range 8 {
		l = append(l, Update{Entries: []Entry{entry(dest, dest%4, 6)}})
	}
	one := entry(3, 3, 6)
	for _, k := range []api.Key{{}, {Epoch: 65536}, {Seq: 63}, {Metric: 15}, {Epoch: 65536, Seq: 63, Metric: 15}, {Epoch: 258, Seq: 7, Metric: 1}} {
		one.Key = k
		l = append(l, Update{Entries: []Entry{one}}, Update{true, []Entry{entry(0, 0, 0), one, entry(7, 1, 1)}})
	}
	var all []Entry
	for dest := range 8 {
		all = append(all, entry(dest, 3, 6))
	}
	return append(l, Update{true, all}, Update{false, []Entry{entry(2, 0, 0), entry(5, 2, 3)}})
}

// wrongUpdates are none, each by one thing; those that bytes may tell, if that thing is a field's number, come first, and there are so many of them.
func wrongUpdates() ([]Update, int) {
	var l []Update
	of := func(entries ...Entry) { l = append(l, Update{Entries: entries}) }
	keyed := func(k api.Key) {
		x := entry(3, 1, 1)
		x.Key = k
		of(x)
		of(entry(1, 1, 1), x, entry(7, 1, 1))
	}
	for _, dest := range []int{8, 9, 127, 128, 255} {
		of(entry(dest%8, 1, 1).at(dest))
		of(entry(0, 1, 1), entry(1, 1, 1).at(dest))
	}
	of(entry(3, 1, 1), entry(3, 1, 1))
	of(entry(0, 1, 1), entry(0, 1, 1))
	of(entry(3, 1, 1), entry(2, 1, 1))
	of(entry(1, 1, 1), entry(7, 1, 1), entry(0, 1, 1))
	of(entry(1, 1, 1), entry(3, 1, 1), entry(2, 1, 1), entry(4, 1, 1))
	for _, n := range []uint32{65537, 1 << 17, 1 << 31, math.MaxUint32} {
		keyed(api.Key{Epoch: n})
	}
	for _, n := range []uint32{64, 65, 128, 255} {
		keyed(api.Key{Seq: n})
		keyed(api.Key{Metric: int(n)})
	}
	keyed(api.Key{Metric: 16})
	told := len(l)
	for _, dest := range noNodes {
		of(entry(3, 1, 1).at(dest))
		of(entry(0, 1, 1), entry(3, 1, 1).at(dest))
	}
	for _, n := range []uint32{256, 257, 1 << 16, math.MaxUint32} {
		keyed(api.Key{Seq: n})
	}
	for _, n := range []int{-1, -16, 256, 257, 1 << 32, math.MaxInt, math.MinInt} {
		keyed(api.Key{Metric: n})
	}
	for _, n := range []int{4, 5, 6, 255, 256, 257, 300} {
		of(entry(3, n, 1))
		of(entry(1, 1, 1), entry(3, n, 1))
		of(entry(3, 1, n+3))
		of(entry(1, 1, 1), entry(3, 1, n+3))
	}
	return l, told
}

// at is the entry, of another destination.
func (x Entry) at(dest int) Entry {
	x.Dest = dest
	return x
}

func putUpdate(t *testing.T, u Update) []byte {
	t.Helper()
	b, e := PutUpdate(u)
	if e != api.OK {
		t.Fatalf("PutUpdate of %v: %d", u, e)
	}
	return b
}

func noUpdate(t *testing.T, what string, b []byte, want api.Errno) {
	t.Helper()
	if u, e := GetUpdate(b); !u.is(Update{}) || e != want {
		t.Errorf("%s: GetUpdate of %x: %v, %d, not %d", what, b, u, e, want)
	}
}

// P12.2
func TestPutAndGetUpdate(t *testing.T) {
	for _, u := range rightUpdates() {
		b := putUpdate(t, u)
		if !bytes.Equal(b, updateBytes(u)) {
			t.Errorf("PutUpdate of %v: %x", u, b)
		}
		if got, e := GetUpdate(b); !got.is(u) || e != api.OK {
			t.Errorf("GetUpdate: %v, %d, not %v", got, e, u)
		}
	}
	one := Update{true, []Entry{{2, api.Key{Epoch: 258, Seq: 3, Metric: 4}, proof.Cred{Leaf: api.Sum{5}, Way: []api.Sum{{6}}}}}}
	want := "010102" + "00000102" + "03" + "04" + "05000000000000000000000000000000" + "01" + "06000000000000000000000000000000" + "00"
	if b := putUpdate(t, one); !bytes.Equal(b, unhex(t, want)) {
		t.Errorf("PutUpdate: %x", b)
	}
}

// P12.2: nil and empty lists are one (R4).
func TestEmptyUpdates(t *testing.T) {
	for _, u := range []Update{{}, {Entries: []Entry{}}} {
		if b := putUpdate(t, u); !bytes.Equal(b, []byte{0, 0}) {
			t.Errorf("PutUpdate: %x", b)
		}
	}
	x := entry(1, 0, 0)
	b := putUpdate(t, Update{Entries: []Entry{x}})
	x.Cred.Way, x.Cred.Path = []api.Sum{}, []api.Sum{}
	if !bytes.Equal(putUpdate(t, Update{Entries: []Entry{x}}), b) {
		t.Error("empty ways aren't nil ones")
	}
}

// P12.2, Errors
func TestWrongUpdates(t *testing.T) {
	l, told := wrongUpdates()
	for at, u := range l {
		if b, e := PutUpdate(u); len(b) != 0 || e != api.ErrArg {
			t.Errorf("PutUpdate of %v: %x, %d", u, b, e)
		}
		if at < told {
			noUpdate(t, "no update", updateBytes(u), api.ErrForm)
		}
	}
}

// P12.2, Errors: that there are too many entries comes first, whatever they are.
func TestTooManyEntries(t *testing.T) {
	for _, many := range []int{9, 10, 255, 256, 257, 264} {
		var rising, wrong []Entry
		for dest := range many {
			rising = append(rising, entry(dest%8, 1, 1).at(dest))
			wrong = append(wrong, entry(7, 9, 9).at(-dest))
		}
		for _, l := range [][]Entry{rising, wrong} {
			if b, e := PutUpdate(Update{Entries: l}); len(b) != 0 || e != api.ErrLimit {
				t.Errorf("PutUpdate of %d: %x, %d", many, b, e)
			}
		}
		if many < 256 {
			noUpdate(t, "too many", []byte{1, byte(many)}, api.ErrLimit)
			noUpdate(t, "too many", []byte{0, byte(many), 9, 9, 9}, api.ErrLimit)
			noUpdate(t, "too many", updateBytes(Update{Entries: rising}), api.ErrLimit)
		}
	}
}

// P12.2, Errors: a first number above 1 is told as soon as it is read.
func TestFirstNumberOfUpdate(t *testing.T) {
	good := updateBytes(Update{Entries: []Entry{entry(2, 1, 1)}})
	for first := 2; first < 256; first++ {
		for _, b := range [][]byte{{0}, {0, 0}, {0, 9}, {0, 1}, good, append(bytes.Clone(good), 0)} {
			b = bytes.Clone(b)
			b[0] = byte(first)
			noUpdate(t, "another first number", b, api.ErrForm)
		}
	}
}

// P12.2, Errors: bytes that end ahead of its end, or behind it.
func TestUpdateOfOtherLengths(t *testing.T) {
	for _, u := range rightUpdates() {
		b := updateBytes(u)
		for size := range b {
			noUpdate(t, "cut", b[:size], api.ErrShort)
		}
		for _, more := range []int{1, 2, 16, 25} {
			noUpdate(t, "more", append(bytes.Clone(b), make([]byte, more)...), api.ErrForm)
		}
	}
}

// P12.2, Errors: of an entry's lists a number that is too great is told as soon as it is read.
func TestLongLists(t *testing.T) {
	for _, ahead := range [][]Entry{nil, {entry(1, 2, 3)}} {
		head := updateBytes(Update{Entries: append(ahead, entry(3, 0, 0))})
		ways := head[:len(head)-2]
		for n := 4; n < 256; n++ {
			b := append(bytes.Clone(ways), byte(n))
			noUpdate(t, "a long way", b, api.ErrLimit)
			noUpdate(t, "a long way", append(b, make([]byte, 16*n+1)...), api.ErrLimit)
			if n > 6 {
				b := append(bytes.Clone(ways), 0, byte(n))
				noUpdate(t, "a long path", b, api.ErrLimit)
				noUpdate(t, "a long path", append(b, make([]byte, 16*n)...), api.ErrLimit)
			}
		}
		noUpdate(t, "no path", append(bytes.Clone(ways), 3), api.ErrShort)
	}
}

// P12.2, Errors: an entry that may not be is told behind all of it, and ahead of the next one.
func TestOrderOfErrorsInUpdate(t *testing.T) {
	l, told := wrongUpdates()
	for _, u := range l[:told] {
		b := updateBytes(u)
		last := len(b) - len(entryBytes(u.Entries[len(u.Entries)-1]))
		if _, e := PutUpdate(Update{Entries: u.Entries[:len(u.Entries)-1]}); e != api.OK {
			continue // another entry than the last one is wrong
		}
		for size := range b {
			noUpdate(t, "a cut wrong entry", b[:size], api.ErrShort)
		}
		b[1]++
		noUpdate(t, "a wrong entry, and none behind it", b, api.ErrForm)
		noUpdate(t, "a wrong entry, and another one with a long way", append(bytes.Clone(b), updateBytes(Update{Entries: []Entry{entry(7, 9, 1)}})[2:]...), api.ErrForm)
		// The number of its way's sums stands behind the entry's first 23 bytes.
		b[last+23] = 4
		noUpdate(t, "a wrong entry with a long way", b, api.ErrLimit)
	}
}

// P12.2: any bytes, held against the model; what was got is put again as it was.
func TestAnyUpdates(t *testing.T) {
	r, got := rand.New(rand.NewSource(2)), 0
	all := rightUpdates()
	wrong, told := wrongUpdates()
	all = append(all, wrong[:told]...)
	for range 20000 {
		b := spoilt(r, updateBytes(all[r.Intn(len(all))]))
		want, e := readUpdate(b)
		u, f := GetUpdate(b)
		if !u.is(want) || f != e {
			t.Fatalf("GetUpdate of %x: %v, %d, not %v, %d", b, u, f, want, e)
		}
		if f == api.OK {
			got++
			if !bytes.Equal(putUpdate(t, u), b) {
				t.Fatalf("what was got isn't PutUpdate's: %x", b)
			}
		}
	}
	if got < 1000 {
		t.Errorf("got: %d", got)
	}
}

// R3: an update keeps nothing of its bytes, and none of its lists shares memory with another one.
func TestUpdatesAreNewMemory(t *testing.T) {
	u := Update{true, []Entry{entry(1, 3, 6), entry(2, 2, 5), entry(3, 0, 1)}}
	b := putUpdate(t, u)
	got, _ := GetUpdate(b)
	fill(b, 255)
	if !got.is(u) {
		t.Error("an update is its bytes' memory")
	}
	for at := range got.Entries {
		mine, want := &got.Entries[at].Cred, u.Entries[at].Cred
		scribble(mine.Way)
		mine.Way = want.Way
		if !got.is(u) {
			t.Errorf("the way %d is memory of another list", at)
		}
		scribble(mine.Path)
		mine.Path = want.Path
		if !got.is(u) {
			t.Errorf("the path %d is memory of another list", at)
		}
	}
}

// scribble overwrites a list, its spare room too.
func scribble(l []api.Sum) {
	l = l[:cap(l)]
	for at := range l {
		l[at] = some(999)
	}
}
