package frame

import (
	"fingerpost/api"
	"fingerpost/field"
	"fingerpost/proof"
	"fingerpost/rank"
)

// mostWay is how many sums a credential's way has at most: as many as MaxNodes leaves need.
const mostWay = 3

// Entry is a claim of the sender's, and what shows it.
type Entry struct {
	Dest int
	Key  api.Key
	Cred proof.Cred
}

// Update is a sender's claims: all that it has, or what is new.
type Update struct {
	Full    bool
	Entries []Entry
}

// PutUpdate is an update's bytes.
func PutUpdate(u Update) ([]byte, api.Errno) {
	if len(u.Entries) > api.MaxNodes {
		return nil, api.ErrLimit
	}
	o := field.Lay()
	o.U8(number(u.Full))
	o.U8(uint64(len(u.Entries)))
	last := -1
	for _, x := range u.Entries {
		if !follows(last, x) {
			return nil, api.ErrArg
		}
		last = x.Dest
		putEntry(o, x)
	}
	return o.Bytes()
}

// GetUpdate is the update that bytes are.
func GetUpdate(b []byte) (Update, api.Errno) {
	i := field.Take(b)
	full := i.U8()
	if full > 1 {
		i.Fail(api.ErrForm)
	}
	u := Update{Full: full == 1}
	last := -1
	for range many(i) {
		x := getEntry(i)
		if !follows(last, x) {
			i.Fail(api.ErrForm)
		}
		last = x.Dest
		u.Entries = append(u.Entries, x)
	}
	if e := i.End(); e != api.OK {
		return Update{}, e
	}
	return u, api.OK
}

// follows says whether an entry may be, and stands behind one of the destination last.
func follows(last int, x Entry) bool {
	return isNode(x.Dest) && x.Dest > last && rank.Right(x.Key) &&
		len(x.Cred.Way) <= mostWay && len(x.Cred.Path) <= api.MaxHeight
}

// putEntry lays an entry that may be: none of its fields is too great.
func putEntry(o *field.Out, x Entry) {
	o.U8(uint64(x.Dest))
	o.U32(uint64(x.Key.Epoch))
	o.U8(uint64(x.Key.Seq))
	o.U8(uint64(x.Key.Metric))
	o.Sum(x.Cred.Leaf)
	o.Sums(x.Cred.Way)
	o.Sums(x.Cred.Path)
}

func getEntry(i *field.In) Entry {
	x := Entry{Dest: int(i.U8())}
	x.Key.Epoch, x.Key.Seq, x.Key.Metric = uint32(i.U32()), uint32(i.U8()), int(i.U8())
	x.Cred.Leaf = i.Sum()
	x.Cred.Way, x.Cred.Path = i.Sums(mostWay), i.Sums(api.MaxHeight)
	return x
}

// many is how many things follow of which there is at most one for each node.
func many(i *field.In) int {
	n := int(i.U8())
	if n > api.MaxNodes {
		i.Fail(api.ErrLimit)
		return 0
	}
	return n
}

// number is 1 for true.
func number(full bool) uint64 {
	if full {
		return 1
	}
	return 0
}
