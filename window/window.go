// Package window is layer 2: see shared/doc/02-window.md.
package window

import (
	"fingerpost/api"
)

// Window tells which numbers came already: of the highest boot, the last ones.
type Window struct {
	size      uint64
	boot, top uint64
	taken     uint64 // the bit i stands for the count i below the top
}

// New is a window of so many numbers, in which none came.
func New(size int) (*Window, api.Errno) {
	if size < 1 || size > api.MaxWindow {
		return nil, api.ErrArg
	}
	return &Window{size: uint64(size)}, api.OK
}

// Fresh says whether a number didn't come, and may.
func (w *Window) Fresh(boot, count uint64) bool {
	if w == nil || boot == 0 || count == 0 || boot < w.boot {
		return false
	}
	if boot > w.boot || count > w.top {
		return true
	}
	below := w.top - count
	return below < w.size && w.taken>>below&1 == 0
}

// Take notes that a number came.
func (w *Window) Take(boot, count uint64) api.Errno {
	if w == nil {
		return api.ErrNil
	}
	if boot == 0 || count == 0 {
		return api.ErrArg
	}
	if !w.Fresh(boot, count) {
		return api.ErrReplay
	}
	switch {
	case boot > w.boot:
		w.boot, w.top, w.taken = boot, count, 1
	case count > w.top:
		// A shift by 64 or more leaves no bit, as it must: all that was taken is too far below then.
		w.taken = w.taken<<(count-w.top) | 1
		w.top = count
	default:
		w.taken |= 1 << (w.top - count)
	}
	return api.OK
}

// Top is the highest boot, and its highest number.
func (w *Window) Top() (boot, count uint64) {
	if w == nil {
		return 0, 0
	}
	return w.boot, w.top
}
