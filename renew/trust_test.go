package renew

import (
	"fingerpost/api"
	"fingerpost/ots"
	"math"
	"testing"
)

// P11.2, P11.3
func TestNew(t *testing.T) {
	for dest := range 8 {
		for _, epoch := range []uint32{0, 1, 1<<16 - 1, 1 << 16} {
			tr, e := New(dest, epoch, some(dest))
			if tr == nil || e != api.OK {
				t.Fatalf("New(%d, %d, ..): %v, %d", dest, epoch, tr, e)
			}
			isTrust(t, tr, epoch, some(dest), nil)
		}
	}
}

// P11.2, Errors
func TestNewOfWrongNumbers(t *testing.T) {
	for _, dest := range append(noDests, 1) {
		for _, epoch := range append(noEpochs, 7) {
			if dest == 1 && epoch == 7 {
				continue
			}
			if tr, e := New(dest, epoch, some(1)); tr != nil || e != api.ErrArg {
				t.Errorf("New(%d, %d, ..): %v, %d", dest, epoch, tr, e)
			}
		}
	}
}

// answers holds Look and Take to an error that neither signature nor key decide.
func answers(t *testing.T, tr *Trust, x Signed, want api.Errno) {
	t.Helper()
	if got := tr.Look(x); got != want {
		t.Errorf("Look of %d, %d: %d, not %d", x.Record.Dest, x.Record.Epoch, got, want)
	}
	if got := tr.Take(x); got != want {
		t.Errorf("Take of %d, %d: %d, not %d", x.Record.Dest, x.Record.Epoch, got, want)
	}
}

// P11.2: the chapter's example.
func TestExample(t *testing.T) {
	tr, zero, one := trusting(t, 1, 0), issued(t, 1, 0), issued(t, 1, 1)
	answers(t, tr, one, api.ErrState)
	answers(t, tr, zero, api.OK)
	answers(t, tr, zero, api.ErrOld)
	answers(t, tr, one, api.OK)
	isTrust(t, tr, 0, public(1, 2), []Signed{zero, one})
}

// P11.2, P11.3: Look takes nothing; Take does; a record more each time.
func TestTake(t *testing.T) {
	for dest, first := range []uint32{0, 1, 255, 65530, 3, 4, 5, 6} {
		tr := trusting(t, dest, first)
		var took []Signed
		for epoch := first; epoch < first+4; epoch++ {
			isTrust(t, tr, first, public(dest, epoch), took)
			x := issued(t, dest, epoch)
			if e := tr.Look(x); e != api.OK {
				t.Errorf("Look of %d, %d: %d", dest, epoch, e)
			}
			isTrust(t, tr, first, public(dest, epoch), took)
			if e := tr.Take(x); e != api.OK {
				t.Errorf("Take of %d, %d: %d", dest, epoch, e)
			}
			took = append(took, x)
		}
		isTrust(t, tr, first, public(dest, first+4), took)
	}
}

// P11.2, Errors: in their order, whatever the signature is; nothing has changed behind one.
func TestOrderOfErrors(t *testing.T) {
	tr := trusting(t, 3, 5)
	took := []Signed{issued(t, 3, 5), issued(t, 3, 6)}
	for _, x := range took {
		answers(t, tr, x, api.OK)
	}
	for _, dest := range append(noDests, 0, 2, 4, 3+256, 3-256) {
		for _, epoch := range append(noEpochs, 0, 5, 6, 7, 8) {
			answers(t, tr, filled(dest, epoch), api.ErrArg)
		}
	}
	for _, epoch := range []uint32{0, 1, 4, 5, 6} {
		answers(t, tr, filled(3, epoch), api.ErrOld)
		answers(t, tr, issued(t, 3, epoch), api.ErrOld)
	}
	for _, epoch := range append(noEpochs, 8, 9, 7+1<<8, 1<<16) {
		answers(t, tr, filled(3, epoch), api.ErrState)
	}
	answers(t, tr, issued(t, 3, 8), api.ErrState)
	isTrust(t, tr, 5, public(3, 7), took)
}

// P11.2, Errors: behind MaxEpoch nothing is taken any more, though there is a key for it.
func TestSpent(t *testing.T) {
	const last = 1 << 16
	tr, x := trusting(t, 2, last), issued(t, 2, last)
	answers(t, tr, x, api.OK)
	n := ots.Name{Dest: 2, Index: last + 1}
	answers(t, tr, signed(Record{2, last + 1, some(1), some(2)}, counting(), n), api.ErrSpent)
	answers(t, tr, filled(2, last+1), api.ErrSpent)
	answers(t, tr, filled(1, last+1), api.ErrArg)
	answers(t, tr, x, api.ErrOld)
	answers(t, tr, filled(2, last+2), api.ErrState)
	answers(t, tr, filled(2, math.MaxUint32), api.ErrState)
	isTrust(t, tr, last, public(2, last+1), []Signed{x})
}

// unsigned says that a record would be looked at, but isn't taken, and that nothing has changed.
func unsigned(t *testing.T, what string, tr *Trust, x Signed) {
	t.Helper()
	epoch, key := tr.Next()
	if look, take := tr.Look(x), tr.Take(x); look != api.OK || take != api.ErrSign {
		t.Errorf("%s: %d, %d", what, look, take)
	}
	if now, other := tr.Next(); now != epoch || other != key {
		t.Errorf("%s: Next: %d, %x", what, now, other)
	}
}

// P11.2, Errors: whatever was turned of a record or of its signature.
func TestTurnedRecords(t *testing.T) {
	tr, good := trusting(t, 3, 5), issued(t, 3, 5)
	for bit := range 128 {
		root, next := good, good
		root.Record.Root[bit/8] ^= 1 << (bit % 8)
		next.Record.Next[bit/8] ^= 1 << (bit % 8)
		unsigned(t, "a turned root", tr, root)
		unsigned(t, "a turned next key", tr, next)
	}
	for chain := range ots.Chains {
		x := good
		x.Sig[chain][chain%16] ^= 1 << (chain % 8)
		unsigned(t, "a turned signature", tr, x)
	}
	isTrust(t, tr, 5, public(3, 5), nil)
	answers(t, tr, good, api.OK)
	isTrust(t, tr, 5, public(3, 6), []Signed{good})
}

// P11.2, Errors: the key of that destination and that epoch signs, no other.
func TestOthersKeys(t *testing.T) {
	tr, good := trusting(t, 3, 5), issued(t, 3, 5)
	r := good.Record
	for _, n := range []ots.Name{{Dest: 3, Index: 4}, {Dest: 3, Index: 6}, {Dest: 2, Index: 5}, {Dest: 4, Index: 5}, {Dest: 3}} {
		unsigned(t, "another key", tr, signed(r, counting(), n))
	}
	seed := counting()
	seed[31] ^= 1
	unsigned(t, "another seed", tr, signed(r, seed, ots.Name{Dest: 3, Index: 5}))
	unsigned(t, "nobody", tr, Signed{Record: r})
	unsigned(t, "another record's signature", tr, Signed{r, issued(t, 3, 6).Sig})
	answers(t, tr, good, api.OK)
	// The key that a record names is asked for next, whosever it is.
	other := trusting(t, 3, 5)
	strange := ots.Name{Dest: 3, Index: 6}
	named := signed(Record{3, 5, some(1), ots.Public(seed, strange)}, counting(), ots.Name{Dest: 3, Index: 5})
	answers(t, other, named, api.OK)
	unsigned(t, "a key that isn't named", other, issued(t, 3, 6))
	answers(t, other, signed(Record{3, 6, some(2), some(3)}, seed, strange), api.OK)
	unsigned(t, "of no known key", other, issued(t, 3, 7))
}

// P11.2: the key's name is the trust's, too: one key of another name doesn't do.
func TestKeyOfAnotherName(t *testing.T) {
	r := Record{3, 5, some(1), some(2)}
	for _, n := range []ots.Name{{Dest: 2, Index: 5}, {Dest: 3, Index: 4}, {Dest: 3, Index: 6}} {
		tr, _ := New(3, 5, ots.Public(counting(), n))
		unsigned(t, "a key of another name", tr, signed(r, counting(), n))
	}
}

// P11.4: in whatever order records come, they are taken in theirs; there is no gap, and all stays.
func TestAnyOrder(t *testing.T) {
	const many, first = 5, 10
	var l []Signed
	for epoch := range uint32(many) {
		l = append(l, issued(t, 4, first+epoch))
	}
	for start := range 40 {
		tr, took := trusting(t, 4, first), 0
		for try := range 60 {
			// Steps of no short period, so that each start makes another order.
			at := (start*start + try*(start+3) + try*try/7) % many
			want := api.OK
			if at < took {
				want = api.ErrOld
			} else if at > took {
				want = api.ErrState
			}
			answers(t, tr, l[at], want)
			if at == took {
				took++
			}
			isTrust(t, tr, first, public(4, first+uint32(took)), l[:took])
		}
	}
}

// P11.3, R1, R2
func TestNilTrust(t *testing.T) {
	var tr *Trust
	for _, x := range []Signed{{}, filled(3, 5), filled(-1, math.MaxUint32)} {
		answers(t, tr, x, api.ErrNil)
	}
	epoch, key := tr.Next()
	root, ok := tr.Root(0)
	x, also := tr.Signed(0)
	if epoch != 0 || key != (api.Sum{}) || root != (api.Sum{}) || ok || x != (Signed{}) || also || len(tr.Epochs()) != 0 {
		t.Error("a nil trust has something")
	}
}

// R1: a trust that nobody made panics neither, not even where a record is kept.
func TestUnmadeTrust(t *testing.T) {
	for _, tr := range []*Trust{{}, {key: public(0, 0)}} {
		tr.Look(Signed{})
		tr.Take(issued(t, 0, 0))
		tr.Next()
		tr.Root(0)
		tr.Signed(0)
		tr.Epochs()
	}
}

// R3: what is handed out is new memory.
func TestEpochsAreNewMemory(t *testing.T) {
	tr, x := trusting(t, 1, 0), issued(t, 1, 0)
	answers(t, tr, x, api.OK)
	for range 2 {
		l := tr.Epochs()
		l = l[:cap(l)]
		for at := range l {
			l[at] = 99
		}
	}
	isTrust(t, tr, 0, public(1, 1), []Signed{x})
}
