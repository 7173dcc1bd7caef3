package field

import (
	"bytes"
	"fingerpost/api"
)

const sumSize = len(api.Sum{})

// In takes fields off bytes.
type In struct {
	left []byte // none behind an error
	err  api.Errno
}

// Take are the fields of bytes.
func Take(b []byte) *In {
	return &In{left: bytes.Clone(b)}
}

// Fail notes that something is wrong, if nothing was yet.
func (i *In) Fail(e api.Errno) {
	if i != nil && i.err == api.OK && e != api.OK {
		*i = In{err: e}
	}
}

// U8, U16, U32, U64 are the next numbers.
func (i *In) U8() uint64 {
	return i.number(1)
}

func (i *In) U16() uint64 {
	return i.number(2)
}

func (i *In) U32() uint64 {
	return i.number(4)
}

func (i *In) U64() uint64 {
	return i.number(8)
}

// Sum is the next short sum.
func (i *In) Sum() api.Sum {
	var s api.Sum
	copy(s[:], i.next(sumSize))
	return s
}

// Sums are the next short sums, at most so many.
func (i *In) Sums(most int) []api.Sum {
	// All of them are taken at once, so that none is answered where the last one is cut.
	part := i.next(sumSize * i.many(1, most))
	l := make([]api.Sum, len(part)/sumSize)
	for at := range l {
		copy(l[at][:], part[sumSize*at:])
	}
	return l
}

// Blob is the next bytes with their number, at most so many.
func (i *In) Blob(most int) []byte {
	return bytes.Clone(i.next(i.many(2, min(most, api.MaxBlob))))
}

// Left is how many bytes are left.
func (i *In) Left() int {
	if i == nil {
		return 0
	}
	return len(i.left)
}

// Err is what is wrong.
func (i *In) Err() api.Errno {
	if i == nil {
		return api.ErrNil
	}
	return i.err
}

// End is what is wrong, once nothing more is asked for.
func (i *In) End() api.Errno {
	if i.Left() > 0 {
		i.Fail(api.ErrForm)
	}
	return i.Err()
}

// number is the next number of so many bytes, the highest first.
func (i *In) number(size int) uint64 {
	var n uint64
	for _, b := range i.next(size) {
		n = n<<8 | uint64(b)
	}
	return n
}

// many is how many things follow, told by a number of so many bytes.
func (i *In) many(size, most int) int {
	n := int(i.number(size))
	if n > max(most, 0) {
		i.Fail(api.ErrLimit)
		return 0
	}
	return n
}

// next is the next bytes, none behind an error; they are In's own: whoever hands them out copies them.
func (i *In) next(size int) []byte {
	if size > i.Left() {
		i.Fail(api.ErrShort)
	}
	if i.Err() != api.OK {
		return nil
	}
	part := i.left[:size]
	i.left = i.left[size:]
	return part
}
