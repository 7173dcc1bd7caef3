package spring

import (
	"fingerpost/api"
	"math"
	"slices"
	"sync"
	"testing"
)

func hasMade(t *testing.T, s *Spring, what string, want int) {
	t.Helper()
	if got := s.Made(); got != want {
		t.Errorf("Made behind %s: %d, not %d", what, got, want)
	}
}

// P8.2, and the chapter's example
func TestMade(t *testing.T) {
	s := source{Rules{2, 3, 1}, counting(), 0, 0}.spring(t)
	hasMade(t, s, "New", 0)
	if _, e := s.Element(0, 9); e != api.ErrArg {
		t.Errorf("Element(0, 9): %d", e)
	}
	hasMade(t, s, "an error", 0)
	s.Element(1, 2)
	hasMade(t, s, "Element(1, 2)", 1)
	s.Root()
	hasMade(t, s, "Root", 2)
}

// P8.2: a ladder is made with its first element, whichever it is, and never again.
func TestMadeByElements(t *testing.T) {
	for first := range 17 {
		s := source{Rules{4, 16, 4}, counting(), 3, 4}.spring(t)
		for at, seq := range []int{9, 0, 15, 3, 14, 1} {
			s.Element(seq, first)
			hasMade(t, s, "a first element", at+1)
			for rung := range 17 {
				s.Element(seq, rung)
			}
			s.Element(9, first)
			hasMade(t, s, "further ones", at+1)
		}
		s.Root()
		hasMade(t, s, "Root", 16)
	}
}

// P8.2: all are made with the first Root or Path, those that were made already not again.
func TestMadeByTheTree(t *testing.T) {
	for height := range 7 {
		for ahead := range min(1<<height, 5) + 1 {
			for _, byPath := range []bool{false, true} {
				s := source{Rules{2, 2, height}, counting(), 1, 2}.spring(t)
				for seq := range ahead {
					s.Element(1<<height-1-seq, 1)
				}
				hasMade(t, s, "some elements", ahead)
				for range 2 {
					if byPath {
						s.Path(1<<height - 1)
					} else {
						s.Root()
					}
					hasMade(t, s, "the tree", 1<<height)
				}
				for seq := range 1 << height {
					s.Element(seq, 2)
					s.Path(seq)
				}
				s.Root()
				hasMade(t, s, "all", 1<<height)
			}
		}
	}
}

// P8.2, R2: what answers an error makes nothing; nor do Rules and Made.
func TestErrorsMakeNothing(t *testing.T) {
	s := source{Rules{4, 6, 3}, counting(), 2, 5}.spring(t)
	for _, n := range []int{-1, 8, 9, 64, math.MaxInt, math.MinInt} {
		s.Element(n, 0)
		s.Element(n, n)
		s.Element(0, n)
		s.Path(n)
		s.Rules()
	}
	s.Element(7, 7)
	hasMade(t, s, "errors", 0)
}

// P8.1, P8.2: nothing is reckoned by New, nor once more what was made: no sums are, which take memory.
func TestNothingIsMadeInVain(t *testing.T) {
	s := source{Rules{8, 16, 6}, counting(), 7, 1}.spring(t)
	s.Root()
	again := testing.AllocsPerRun(10, func() {
		s.Element(63, 16)
		s.Root()
	})
	ahead := testing.AllocsPerRun(10, func() {
		New(s.Rules(), counting(), 7, 1)
	})
	if again > 4 || ahead > 8 {
		t.Errorf("to ask again takes memory %v times, New %v times", again, ahead)
	}
}

// R5: the order in which things are asked for is not to be seen in them.
func TestAnyOrder(t *testing.T) {
	o := source{Rules{4, 4, 3}, counting(), 2, 5}
	rising, falling, late := o.spring(t), o.spring(t), o.spring(t)
	late.Path(3)
	for seq := range 8 {
		for rung := range 5 {
			rising.Element(seq, rung)
			falling.Element(7-seq, 4-rung)
		}
	}
	for _, s := range []*Spring{rising, falling, late} {
		for seq := range 8 {
			for rung := range 5 {
				if got, _ := s.Element(seq, rung); got != o.element(seq, rung) {
					t.Errorf("Element(%d, %d): %x", seq, rung, got)
				}
			}
			if path, _ := s.Path(seq); !slices.Equal(path, o.path(seq)) {
				t.Errorf("Path(%d): %x", seq, path)
			}
		}
		if s.Root() != o.top(0, 3) {
			t.Errorf("Root: %x", s.Root())
		}
	}
}

// askAll asks a spring for all that it has, from another place on for each who asks; it answers how many answers were wrong.
func askAll(s *Spring, o source, elements []api.Sum, paths [][]api.Sum, root api.Sum, from int) int {
	wrong, many, rungs := 0, 1<<o.rules.Height, o.rules.Steps+1
	for at := range many * rungs {
		place := (at + 5*from) % (many * rungs)
		if e, _ := s.Element(place/rungs, place%rungs); e != elements[place] {
			wrong++
		}
		if from%3 == 2 && at == from {
			if path, _ := s.Path(place / rungs); !slices.Equal(path, paths[place/rungs]) || s.Root() != root {
				wrong++
			}
		}
		if made := s.Made(); made < 1 || made > many {
			wrong++
		}
	}
	return wrong
}

// P8.2, R5: springs may be used by several at once; each ladder is made once all the same.
func TestSeveralAtOnce(t *testing.T) {
	o := source{Rules{4, 5, 3}, counting(), 2, 5}
	var elements []api.Sum
	var paths [][]api.Sum
	for seq := range 8 {
		for rung := range 6 {
			elements = append(elements, o.element(seq, rung))
		}
		paths = append(paths, o.path(seq))
	}
	root := o.top(0, 3)
	for range 20 {
		s := o.spring(t)
		wrong := make([]int, 12)
		var all sync.WaitGroup
		for from := range wrong {
			all.Add(1)
			go func() {
				defer all.Done()
				wrong[from] = askAll(s, o, elements, paths, root, from)
			}()
		}
		all.Wait()
		for from, n := range wrong {
			if n != 0 {
				t.Errorf("%d had %d wrong answers", from, n)
			}
		}
		hasMade(t, s, "all", 8)
	}
}
