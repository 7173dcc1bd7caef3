package window

import (
	"fingerpost/api"
	"math"
	"math/rand"
	"testing"
)

func made(t *testing.T, size int) *Window {
	t.Helper()
	w, e := New(size)
	if w == nil || e != api.OK {
		t.Fatalf("New(%d): %v, %d", size, w, e)
	}
	return w
}

func take(t *testing.T, w *Window, boot, count uint64, want api.Errno) {
	t.Helper()
	if fresh := w.Fresh(boot, count); fresh != (want == api.OK) {
		t.Errorf("Fresh(%d, %d): %v", boot, count, fresh)
	}
	if e := w.Take(boot, count); e != want {
		t.Errorf("Take(%d, %d): %d, not %d", boot, count, e, want)
	}
}

func top(t *testing.T, w *Window, boot, count uint64) {
	t.Helper()
	if b, c := w.Top(); b != boot || c != count {
		t.Errorf("Top: %d, %d, not %d, %d", b, c, boot, count)
	}
}

// P2.1
func TestNew(t *testing.T) {
	for size := 1; size <= 64; size++ {
		top(t, made(t, size), 0, 0)
	}
	for _, size := range []int{0, -1, 65, math.MinInt, math.MaxInt} {
		if w, e := New(size); w != nil || e != api.ErrArg {
			t.Errorf("New(%d): %v, %d", size, w, e)
		}
	}
}

// P2.1: the chapter's example.
func TestExample(t *testing.T) {
	w := made(t, 4)
	take(t, w, 1, 5, api.OK)
	take(t, w, 1, 2, api.OK)
	take(t, w, 1, 1, api.ErrReplay)
	take(t, w, 1, 5, api.ErrReplay)
	take(t, w, 2, 1, api.OK)
	take(t, w, 1, 9, api.ErrReplay)
	top(t, w, 2, 1)
}

// P2.1: of each size the edge below the top.
func TestEdge(t *testing.T) {
	for size := uint64(1); size <= 64; size++ {
		w := made(t, int(size))
		take(t, w, 7, 100, api.OK)
		top(t, w, 7, 100)
		take(t, w, 7, 100-size, api.ErrReplay)
		if size > 1 {
			take(t, w, 7, 100-size+1, api.OK)
			take(t, w, 7, 100-size+1, api.ErrReplay)
		}
		take(t, w, 7, 100, api.ErrReplay)
		top(t, w, 7, 100)
	}
}

// P2.1: which counts were taken goes on as the top rises, by one, to the window's end, and beyond it.
func TestRise(t *testing.T) {
	for size := uint64(1); size <= 64; size++ {
		for _, by := range []uint64{1, 2, size - 1, size, size + 1, 63, 64, 65, 1 << 32, math.MaxUint64 - 100} {
			if by == 0 {
				continue
			}
			w := made(t, int(size))
			take(t, w, 1, 100, api.OK)
			take(t, w, 1, 100+by, api.OK)
			top(t, w, 1, 100+by)
			take(t, w, 1, 100, api.ErrReplay)
			for below := uint64(1); below < size; below++ {
				want := api.OK
				if below == by {
					want = api.ErrReplay
				}
				take(t, w, 1, 100+by-below, want)
			}
		}
	}
}

// P2.1: a higher boot begins anew, an elder one is over.
func TestBoots(t *testing.T) {
	w := made(t, 64)
	take(t, w, 5, 50, api.OK)
	take(t, w, 4, 51, api.ErrReplay)
	take(t, w, 6, 1, api.OK)
	top(t, w, 6, 1)
	take(t, w, 6, 1, api.ErrReplay)
	take(t, w, 5, 51, api.ErrReplay)
	take(t, w, 6, 50, api.OK)
	take(t, w, 6, 49, api.OK)
	top(t, w, 6, 50)
	take(t, w, math.MaxUint64, math.MaxUint64, api.OK)
	top(t, w, math.MaxUint64, math.MaxUint64)
	take(t, w, math.MaxUint64, math.MaxUint64, api.ErrReplay)
	take(t, w, math.MaxUint64, math.MaxUint64-63, api.OK)
	take(t, w, math.MaxUint64, math.MaxUint64-64, api.ErrReplay)
	take(t, w, math.MaxUint64-1, math.MaxUint64, api.ErrReplay)
}

// P2.1: near its beginning a window reaches below the count 1; 0 is none all the same.
func TestBeginning(t *testing.T) {
	w := made(t, 64)
	take(t, w, 1, 3, api.OK)
	take(t, w, 1, 1, api.OK)
	take(t, w, 1, 0, api.ErrArg)
	take(t, w, 1, 2, api.OK)
	top(t, w, 1, 3)
}

// Errors: with ErrArg nothing has changed, whatever was taken.
func TestZero(t *testing.T) {
	w := made(t, 4)
	for range 2 {
		b, c := w.Top()
		take(t, w, 0, 0, api.ErrArg)
		take(t, w, 0, 1, api.ErrArg)
		take(t, w, 0, 100, api.ErrArg)
		take(t, w, 1, 0, api.ErrArg)
		take(t, w, 100, 0, api.ErrArg)
		top(t, w, b, c)
		w.Take(3, 3)
	}
}

// P2.1, R1
func TestNilWindow(t *testing.T) {
	var w *Window
	if w.Fresh(1, 1) || w.Fresh(0, 0) {
		t.Error("something is fresh")
	}
	if e := w.Take(1, 1); e != api.ErrNil {
		t.Errorf("Take(1, 1): %d", e)
	}
	if e := w.Take(0, 0); e != api.ErrNil {
		t.Errorf("Take(0, 0): %d", e)
	}
	top(t, w, 0, 0)
}

// R1: a window that nobody made panics neither.
func TestUnmadeWindow(t *testing.T) {
	w := &Window{}
	for _, count := range []uint64{5, 5, 1, 0, math.MaxUint64} {
		w.Fresh(1, count)
		w.Take(1, count)
		w.Top()
	}
}

// model is a window as the chapter's words tell it.
type model struct {
	size      uint64
	boot, top uint64
	taken     map[[2]uint64]bool
}

func (m *model) fresh(boot, count uint64) bool {
	if boot == 0 || count == 0 {
		return false
	}
	if len(m.taken) == 0 || boot > m.boot {
		return true
	}
	return boot == m.boot && (count > m.top || m.top-count < m.size && !m.taken[[2]uint64{boot, count}])
}

func (m *model) take(boot, count uint64) {
	if boot > m.boot {
		m.boot, m.top = boot, 0
	}
	m.top = max(m.top, count)
	m.taken[[2]uint64{boot, count}] = true
}

// P2.1, P2.3: against the model; and nothing is taken twice.
func TestAgainstModel(t *testing.T) {
	r := rand.New(rand.NewSource(2))
	for round := range 300 {
		size := 1 + r.Intn(api.MaxWindow)
		w := made(t, size)
		m := &model{size: uint64(size), taken: map[[2]uint64]bool{}}
		span := 1 + r.Intn(3*size)
		for step := range 300 {
			boot, count := uint64(r.Intn(3)+step/100), uint64(step/2+r.Intn(span))
			fresh, twice := m.fresh(boot, count), m.taken[[2]uint64{boot, count}]
			if got := w.Fresh(boot, count); got != fresh {
				t.Fatalf("round %d: Fresh(%d, %d): %v", round, boot, count, got)
			}
			e := w.Take(boot, count)
			if (e == api.OK) != fresh || twice && e == api.OK {
				t.Fatalf("round %d: Take(%d, %d): %d", round, boot, count, e)
			}
			if fresh {
				m.take(boot, count)
			}
			top(t, w, m.boot, m.top)
		}
	}
}

// R5: to ask whether a number is fresh takes nothing.
func TestFreshTakesNothing(t *testing.T) {
	w := made(t, 4)
	for range 3 {
		if !w.Fresh(9, 9) {
			t.Error("9, 9 isn't fresh")
		}
	}
	top(t, w, 0, 0)
	take(t, w, 1, 1, api.OK)
}
