package renew

import (
	"fingerpost/api"
	"fingerpost/mac"
	"fingerpost/ots"
	"maps"
	"slices"
)

// Trust is what is known of a destination's roots, epoch by epoch.
type Trust struct {
	dest  int
	next  uint32
	key   api.Sum // of the next epoch
	taken map[uint32]Signed
}

// New trusts a destination's first key, of an epoch.
func New(dest int, epoch uint32, key api.Sum) (*Trust, api.Errno) {
	if !mayBe(dest, epoch) {
		return nil, api.ErrArg
	}
	return &Trust{dest: dest, next: epoch, key: key, taken: map[uint32]Signed{}}, api.OK
}

// Next is the epoch whose record comes next, and its key.
func (t *Trust) Next() (uint32, api.Sum) {
	if t == nil {
		return 0, api.Sum{}
	}
	return t.next, t.key
}

// Look says whether a record would be taken, without reckoning its signature.
func (t *Trust) Look(x Signed) api.Errno {
	switch {
	case t == nil:
		return api.ErrNil
	case x.Record.Dest != t.dest:
		return api.ErrArg
	case x.Record.Epoch < t.next:
		return api.ErrOld
	case x.Record.Epoch > t.next:
		return api.ErrState
	case t.next > api.MaxEpoch:
		return api.ErrSpent
	}
	return api.OK
}

// Take takes the next record, if its key signed it.
func (t *Trust) Take(x Signed) api.Errno {
	if e := t.Look(x); e != api.OK {
		return e
	}
	if !mac.Same(ots.Recover(key(x.Record), Message(x.Record), x.Sig), t.key) {
		return api.ErrSign
	}
	t.keep(x)
	return api.OK
}

// keep goes on to the epoch behind a record's, of which the record names the key.
func (t *Trust) keep(x Signed) {
	// A trust that didn't come out of New has no map, and no call may panic on it.
	if t.taken == nil {
		t.taken = map[uint32]Signed{}
	}
	t.taken[x.Record.Epoch] = x
	t.next, t.key = x.Record.Epoch+1, x.Record.Next
}

// Root is an epoch's root.
func (t *Trust) Root(epoch uint32) (api.Sum, bool) {
	x, ok := t.Signed(epoch)
	return x.Record.Root, ok
}

// Signed is an epoch's record.
func (t *Trust) Signed(epoch uint32) (Signed, bool) {
	if t == nil {
		return Signed{}, false
	}
	x, ok := t.taken[epoch]
	return x, ok
}

// Epochs are the epochs whose roots are known, rising.
func (t *Trust) Epochs() []uint32 {
	if t == nil {
		return nil
	}
	return slices.Sorted(maps.Keys(t.taken))
}
