package spring

import (
	"fingerpost/api"
	"math"
	"slices"
	"testing"
)

// edges are numbers around all bounds, and far off.
func edges() []int {
	l := []int{math.MinInt, math.MinInt + 1, -256, -4, 32, 64, 256, 257, 1 << 32, 1<<32 + 4, math.MaxInt - 1, math.MaxInt}
	for n := -2; n <= 18; n++ {
		l = append(l, n)
	}
	return l
}

func mayBe(r Rules) bool {
	return slices.Contains([]int{1, 2, 4, 8}, r.Width) && r.Steps > 0 && r.Steps < 17 && r.Height > -1 && r.Height < 7
}

// P8.1, Errors: of rules that may not be there is no spring.
func TestRight(t *testing.T) {
	for _, width := range edges() {
		for _, steps := range edges() {
			for _, height := range edges() {
				r := Rules{width, steps, height}
				want, err := mayBe(r), api.OK
				if !want {
					err = api.ErrArg
				}
				if got := Right(r); got != want {
					t.Errorf("Right(%v): %v", r, got)
				}
				if s, e := New(r, api.Digest{1}, 0, 0); e != err || (s != nil) != want {
					t.Errorf("New(%v, ..): %v, %d", r, s, e)
				}
			}
		}
	}
}

// P8.1, Errors: a destination is one of the width's nodes, an epoch at most MaxEpoch.
func TestNew(t *testing.T) {
	for _, width := range []int{1, 2, 4, 8} {
		for _, dest := range edges() {
			for _, epoch := range []uint32{0, 1, 1<<16 - 1, 1 << 16, 1<<16 + 1, 1 << 17, 1 << 31, math.MaxUint32} {
				right := dest >= 0 && dest < width && epoch <= 1<<16
				s, e := New(Rules{width, 3, 1}, api.Digest{1}, dest, epoch)
				if right != (s != nil) || right != (e == api.OK) || !right && e != api.ErrArg {
					t.Errorf("New of the width %d, %d, %d: %v, %d", width, dest, epoch, s, e)
				}
			}
		}
	}
}

// P8.1: sums that another program made.
func TestKnownSums(t *testing.T) {
	for _, x := range []struct {
		o                      source
		first, last, root, end string
	}{
		{source{Rules{1, 1, 0}, counting(), 0, 0}, "fd5a33067e16be3cdb37475e866737b6", "6417255742a7359540e78c821f6895d9", "6417255742a7359540e78c821f6895d9", ""},
		{source{Rules{2, 3, 1}, counting(), 1, 5}, "310ebdbf6e13663f50745059d8a58d0c", "cd2386d14733b23c88ce3a03dd76a4d3", "8b818525aa3ff2cedf5f316e7d66bca2", "b8f319df06e995f965cef60f045e5a8f"},
		{source{Rules{4, 6, 3}, counting(), 2, 65536}, "72bf4d3b65fed15b2f45492667906e9c", "615d56af21d8d56fc03af45d7af1e9f5", "2b4939d3df138b1ecae25ffb1d7c3781", "a88733293b75efca6d782be9ddb31d8c"},
		{source{Rules{8, 16, 6}, counting(), 7, 258}, "feea93caecca490a4706653d9bab020e", "04a6915ea8c104fa1b456a7394d507a8", "fd7ba263382421512fd22d1454913ff3", "d26860f10bebc16e6dbbc7e84c63cccd"},
	} {
		s := x.o.spring(t)
		seq := 1<<x.o.rules.Height - 1
		first, _ := s.Element(seq, 0)
		isSum(t, "the first element", first, x.first)
		last, _ := s.Element(seq, x.o.rules.Steps)
		isSum(t, "the last element", last, x.last)
		isSum(t, "the root", s.Root(), x.root)
		if path, _ := s.Path(seq); len(path) > 0 {
			isSum(t, "the path's end", path[len(path)-1], x.end)
		}
	}
}

// P8.1: each element; asked twice, as to be asked changes nothing of it.
func TestElement(t *testing.T) {
	for _, o := range sources() {
		s := o.spring(t)
		for range 2 {
			for _, seq := range seqs(o.rules.Height) {
				for rung := range o.rules.Steps + 1 {
					if got, e := s.Element(seq, rung); got != o.element(seq, rung) || e != api.OK {
						t.Errorf("Element(%d, %d) of %v: %x, %d", seq, rung, o, got, e)
					}
				}
			}
		}
	}
}

// P8.1, Errors
func TestElementOfWrongNumbers(t *testing.T) {
	for _, o := range sources() {
		s := o.spring(t)
		steps := o.rules.Steps
		for _, rung := range []int{0, 1, steps, -1, steps + 1, 17, 256, math.MaxInt, math.MinInt} {
			for _, seq := range append(noSeqs(o.rules.Height), 0) {
				if 0 <= seq && seq < 1<<o.rules.Height && 0 <= rung && rung <= steps {
					continue
				}
				if got, e := s.Element(seq, rung); got != (api.Sum{}) || e != api.ErrArg {
					t.Errorf("Element(%d, %d) of %v: %x, %d", seq, rung, o, got, e)
				}
			}
		}
	}
}

// P8.1
func TestRootAndPath(t *testing.T) {
	for _, o := range sources() {
		s := o.spring(t)
		for range 2 {
			if got := s.Root(); got != o.top(0, o.rules.Height) {
				t.Errorf("Root of %v: %x", o, got)
			}
			for _, seq := range seqs(o.rules.Height) {
				if got, e := s.Path(seq); !slices.Equal(got, o.path(seq)) || e != api.OK {
					t.Errorf("Path(%d) of %v: %x, %d", seq, o, got, e)
				}
			}
		}
	}
}

// P8.1, Errors
func TestPathOfWrongNumbers(t *testing.T) {
	for _, o := range sources() {
		s := o.spring(t)
		for range 2 {
			for _, seq := range noSeqs(o.rules.Height) {
				if seq >= 0 && seq < 1<<o.rules.Height {
					continue
				}
				if got, e := s.Path(seq); len(got) != 0 || e != api.ErrArg {
					t.Errorf("Path(%d) of %v: %x, %d", seq, o, got, e)
				}
			}
			s.Root()
		}
	}
}

// P8.1: what is made hangs on the seed's each byte, the destination, the epoch, the sequence.
func TestElementsTell(t *testing.T) {
	base := source{Rules{4, 3, 2}, counting(), 1, 258}
	l := []source{base, {base.rules, base.seed, 2, 258}, {base.rules, base.seed, 1, 513}, {base.rules, base.seed, 1, 2}}
	for at := range base.seed {
		other := base
		other.seed[at] ^= 1
		l = append(l, other)
	}
	seen := map[api.Sum]source{}
	for _, o := range l {
		s := o.spring(t)
		sums := []api.Sum{s.Root()}
		for seq := range 4 {
			for rung := range 4 {
				e, _ := s.Element(seq, rung)
				sums = append(sums, e)
			}
		}
		for _, sum := range sums {
			if other, ok := seen[sum]; ok {
				t.Errorf("%v and %v have one sum", o, other)
			}
			seen[sum] = o
		}
	}
}

// P8.1: rules say how far ladders go, and how many there are; below that they are one.
func TestRulesTell(t *testing.T) {
	few := source{Rules{4, 3, 1}, counting(), 1, 2}.spring(t)
	many := source{Rules{4, 9, 4}, counting(), 1, 2}.spring(t)
	for seq := range 2 {
		for rung := range 4 {
			a, _ := few.Element(seq, rung)
			b, _ := many.Element(seq, rung)
			if a != b {
				t.Errorf("Element(%d, %d): %x, %x", seq, rung, a, b)
			}
		}
	}
	for _, o := range sources() {
		if got := o.spring(t).Rules(); got != o.rules {
			t.Errorf("Rules: %v, not %v", got, o.rules)
		}
	}
}

// P8.1, R1
func TestNilSpring(t *testing.T) {
	var s *Spring
	for _, seq := range []int{0, 1, -1, math.MaxInt, math.MinInt} {
		for _, rung := range []int{0, 1, -1, math.MaxInt, math.MinInt} {
			if got, e := s.Element(seq, rung); got != (api.Sum{}) || e != api.ErrNil {
				t.Errorf("Element(%d, %d): %x, %d", seq, rung, got, e)
			}
		}
		if got, e := s.Path(seq); len(got) != 0 || e != api.ErrNil {
			t.Errorf("Path(%d): %x, %d", seq, got, e)
		}
	}
	if s.Root() != (api.Sum{}) || s.Made() != 0 || s.Rules() != (Rules{}) {
		t.Errorf("%x, %d, %v", s.Root(), s.Made(), s.Rules())
	}
}

// R1: a spring that nobody made panics neither.
func TestUnmadeSpring(t *testing.T) {
	for _, s := range []*Spring{{}, new(Spring)} {
		for _, seq := range []int{0, 1, -1, math.MaxInt, math.MinInt} {
			s.Element(seq, 0)
			s.Path(seq)
		}
		s.Root()
		s.Path(0)
		s.Made()
		s.Rules()
	}
}

// R3: what is handed out is new memory.
func TestPathsAreNewMemory(t *testing.T) {
	o := source{Rules{4, 3, 3}, counting(), 1, 2}
	s := o.spring(t)
	for seq := range 8 {
		path, _ := s.Path(seq)
		path = path[:cap(path)]
		for at := range path {
			path[at] = api.Sum{0xff}
		}
	}
	for seq := range 8 {
		if got, _ := s.Path(seq); !slices.Equal(got, o.path(seq)) {
			t.Errorf("Path(%d): %x", seq, got)
		}
	}
	if s.Root() != o.top(0, 3) {
		t.Errorf("Root: %x", s.Root())
	}
}
