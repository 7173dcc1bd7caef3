package renew

import (
	"crypto/sha256"
	"encoding/binary"
	"encoding/hex"
	"fingerpost/api"
	"fingerpost/field"
	"fingerpost/ots"
	"fingerpost/spring"
	"math"
	"slices"
	"testing"
)

var rules = spring.Rules{Width: 8, Steps: 1, Height: 1}

// counting is the seed of the bytes 0 to 31.
func counting() api.Digest {
	var d api.Digest
	for at := range d {
		d[at] = byte(at)
	}
	return d
}

// some is a short sum of no meaning, another one for each number.
func some(number int) api.Sum {
	d := sha256.Sum256([]byte{'?', byte(number), byte(number >> 8)})
	return api.Sum(d[:16])
}

// filled is a signed record of no meaning.
func filled(dest int, epoch uint32) Signed {
	x := Signed{Record: Record{Dest: dest, Epoch: epoch, Root: some(1), Next: some(2)}}
	for chain := range x.Sig {
		x.Sig[chain] = some(3 + chain)
	}
	return x
}

// records have the least and the greatest numbers, and such as none that is issued has.
func records() []Record {
	var l []Record
	for at, dest := range []int{0, 1, 7, 8, 255, 256, 257, -1, math.MaxInt, math.MinInt} {
		for _, epoch := range []uint32{0, 1, 258, 1 << 16, 1<<16 + 1, 0x01020304, math.MaxUint32} {
			l = append(l, Record{dest, epoch, some(at), some(at + 1)})
		}
	}
	return append(l, Record{})
}

func sprung(t *testing.T, r spring.Rules, dest int, epoch uint32) *spring.Spring {
	t.Helper()
	s, e := spring.New(r, counting(), dest, epoch)
	if s == nil || e != api.OK {
		t.Fatalf("spring.New(%v, .., %d, %d): %v, %d", r, dest, epoch, s, e)
	}
	return s
}

// issued is a destination's record of an epoch.
func issued(t *testing.T, dest int, epoch uint32) Signed {
	t.Helper()
	x, e := Issue(sprung(t, rules, dest, epoch), counting(), dest, epoch)
	if e != api.OK {
		t.Fatalf("Issue of %d, %d: %d", dest, epoch, e)
	}
	return x
}

// signed is a record, signed by the key of a name.
func signed(r Record, seed api.Digest, n ots.Name) Signed {
	return Signed{r, ots.Sign(seed, n, Message(r))}
}

// trusting trusts a destination's key of an epoch.
func trusting(t *testing.T, dest int, epoch uint32) *Trust {
	t.Helper()
	tr, e := New(dest, epoch, public(dest, epoch))
	if tr == nil || e != api.OK {
		t.Fatalf("New(%d, %d, ..): %v, %d", dest, epoch, tr, e)
	}
	return tr
}

func public(dest int, index uint32) api.Sum {
	return ots.Public(counting(), ots.Name{Dest: dest, Index: index})
}

// The rest makes what the chapter's words tell, by another program's sums.

func short(text []byte) api.Sum {
	d := sha256.Sum256(text)
	return api.Sum(d[:16])
}

func recordBytes(r Record) []byte {
	b := binary.BigEndian.AppendUint32([]byte{byte(r.Dest)}, r.Epoch)
	return append(append(b, r.Root[:]...), r.Next[:]...)
}

func signedBytes(x Signed) []byte {
	b := recordBytes(x.Record)
	for _, s := range x.Sig {
		b = append(b, s[:]...)
	}
	return b
}

func message(r Record) api.Sum {
	return short(append([]byte{'R'}, recordBytes(r)...))
}

// laid is a signed record as bytes.
func laid(t *testing.T, x Signed) []byte {
	t.Helper()
	o := field.Lay()
	Put(o, x)
	b, e := o.Bytes()
	if e != api.OK {
		t.Fatalf("Put of %v: %d", x.Record, e)
	}
	return b
}

func isSum(t *testing.T, what string, got api.Sum, want string) {
	t.Helper()
	if hex.EncodeToString(got[:]) != want {
		t.Errorf("%s: %x, not %s", what, got, want)
	}
}

// isTrust holds a trust to what it took, from its first epoch on, and to what it waits for.
func isTrust(t *testing.T, tr *Trust, first uint32, key api.Sum, took []Signed) {
	t.Helper()
	next := first + uint32(len(took))
	if epoch, got := tr.Next(); epoch != next || got != key {
		t.Errorf("Next: %d, %x, not %d, %x", epoch, got, next, key)
	}
	var epochs []uint32
	for at, x := range took {
		epoch := first + uint32(at)
		epochs = append(epochs, epoch)
		if root, ok := tr.Root(epoch); root != x.Record.Root || !ok {
			t.Errorf("Root(%d): %x, %v", epoch, root, ok)
		}
		if got, ok := tr.Signed(epoch); got != x || !ok {
			t.Errorf("Signed(%d): %v, %v", epoch, got.Record, ok)
		}
	}
	if got := tr.Epochs(); !slices.Equal(got, epochs) {
		t.Errorf("Epochs: %v, not %v", got, epochs)
	}
	for _, epoch := range []uint32{first - 1, next, next + 1, first + 1<<8, first + 1<<16, math.MaxUint32} {
		root, ok := tr.Root(epoch)
		x, also := tr.Signed(epoch)
		if root != (api.Sum{}) || x != (Signed{}) || ok || also {
			t.Errorf("of %d: %x, %v, %v, %v", epoch, root, ok, x.Record, also)
		}
	}
}
