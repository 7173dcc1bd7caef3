package window

import (
	"fingerpost/api"
	"math"
)

// Counter gives numbers of a boot, each once.
type Counter struct{ boot, last uint64 }

// Begin is a counter of a boot.
func Begin(boot uint64) (*Counter, api.Errno) {
	if boot == 0 {
		return nil, api.ErrArg
	}
	return &Counter{boot: boot}, api.OK
}

// Next is the next number, and its boot.
func (c *Counter) Next() (boot, count uint64, e api.Errno) {
	if c == nil {
		return 0, 0, api.ErrNil
	}
	if c.last == math.MaxUint64 {
		return 0, 0, api.ErrSpent
	}
	c.last++
	return c.boot, c.last, api.OK
}

// Skip goes on to a number.
func (c *Counter) Skip(to uint64) api.Errno {
	if c == nil {
		return api.ErrNil
	}
	if to < c.last {
		return api.ErrArg
	}
	c.last = to
	return api.OK
}
