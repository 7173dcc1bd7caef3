package rank

import "fingerpost/api"

// Floors are the best keys that were held of each destination.
type Floors struct{ m map[int]api.Key }

// New are no floors.
func New() *Floors {
	return &Floors{m: map[int]api.Key{}}
}

// Get is a destination's floor.
func (f *Floors) Get(dest int) (api.Key, bool) {
	if f == nil {
		return api.Key{}, false
	}
	k, ok := f.m[dest]
	return k, ok
}

// May says whether a key stands at a destination's floor, or above it.
func (f *Floors) May(dest int, k api.Key) bool {
	floor, ok := f.Get(dest)
	return !ok || Compare(k, floor) >= 0
}

// Raise lifts a destination's floor: whether it was below.
func (f *Floors) Raise(dest int, k api.Key) (bool, api.Errno) {
	if f == nil {
		return false, api.ErrNil
	}
	if dest < 0 || dest >= api.MaxNodes || !Right(k) {
		return false, api.ErrArg
	}
	if floor, ok := f.m[dest]; ok && Compare(k, floor) <= 0 {
		return false, api.OK
	}
	// Floors that didn't come out of New have no map, and no call may panic on them.
	if f.m == nil {
		f.m = map[int]api.Key{}
	}
	f.m[dest] = k
	return true, api.OK
}

// Dests are the destinations that have a floor, rising.
func (f *Floors) Dests() []int {
	var l []int
	for dest := range api.MaxNodes {
		if _, ok := f.Get(dest); ok {
			l = append(l, dest)
		}
	}
	return l
}
