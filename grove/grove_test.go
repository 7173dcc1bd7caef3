package grove

import (
	"crypto/sha256"
	"encoding/binary"
	"encoding/hex"
	"fingerpost/api"
	"math"
	"slices"
	"testing"
)

// owner is whose tree it is.
type owner struct {
	dest  int
	epoch uint32
}

// owners are such as honest ones have, and such as nobody has: of any numbers.
var owners = []owner{
	{0, 0}, {3, 0x01020304}, {7, api.MaxEpoch}, {-1, math.MaxUint32}, {256, 1 << 24}, {math.MaxInt, 1 << 31}, {math.MinInt, 1},
}

// row are so many short sums of no meaning, all unlike.
func row(many int) []api.Sum {
	var l []api.Sum
	for at := range many {
		d := sha256.Sum256([]byte{'?', byte(at), byte(at >> 8)})
		l = append(l, api.Sum(d[:16]))
	}
	return l
}

// over is what stands above two, by another program.
func over(o owner, level int, a, b api.Sum) api.Sum {
	text := []byte{'G', byte(uint64(o.dest) % 256)}
	text = binary.BigEndian.AppendUint32(text, o.epoch)
	text = append(text, byte(uint64(level)%256))
	d := sha256.Sum256(append(append(text, a[:]...), b[:]...))
	return api.Sum(d[:16])
}

// top is what stands above some leaves: of each half first.
func top(o owner, l []api.Sum) api.Sum {
	if len(l) == 1 {
		return l[0]
	}
	level := 0
	for many := len(l); many > 1; many /= 2 {
		level++
	}
	return over(o, level, top(o, l[:len(l)/2]), top(o, l[len(l)/2:]))
}

// beside is the path of a leaf: level by level what stands above those beside it.
func beside(o owner, l []api.Sum, i int) []api.Sum {
	var path []api.Sum
	for size := 1; size < len(l); size *= 2 {
		first := i/size*size + size
		if i/size%2 == 1 {
			first -= 2 * size
		}
		path = append(path, top(o, l[first:first+size]))
	}
	return path
}

// led is where a leaf and a path lead, the last level first.
func led(o owner, i int, leaf api.Sum, path []api.Sum) api.Sum {
	level := len(path)
	if level == 0 {
		return leaf
	}
	half := 1 << (level - 1)
	below := led(o, i%half, leaf, path[:level-1])
	if i < half {
		return over(o, level, below, path[level-1])
	}
	return over(o, level, path[level-1], below)
}

func grown(t *testing.T, o owner, l []api.Sum) *Grove {
	t.Helper()
	g, e := New(o.dest, o.epoch, l)
	if g == nil || e != api.OK {
		t.Fatalf("New(%v) over %d: %v, %d", o, len(l), g, e)
	}
	return g
}

// P7.1: of any numbers, of which the lowest byte tells, or four.
func TestAbove(t *testing.T) {
	l := row(3)
	for _, o := range owners {
		for _, level := range []int{1, 2, 6, 0, 7, 255, 256, -1, math.MaxInt, math.MinInt} {
			if got := Above(o.dest, o.epoch, level, l[0], l[1]); got != over(o, level, l[0], l[1]) {
				t.Errorf("Above(%v, %d, ..): %x", o, level, got)
			}
		}
	}
	got := map[api.Sum]int{}
	for at, s := range []api.Sum{
		Above(1, 2, 3, l[0], l[1]), Above(2, 2, 3, l[0], l[1]), Above(1, 3, 3, l[0], l[1]), Above(1, 2+1<<24, 3, l[0], l[1]),
		Above(1, 2, 4, l[0], l[1]), Above(1, 2, 3, l[1], l[0]), Above(1, 2, 3, l[0], l[2]), Above(1, 2, 3, l[2], l[1]),
	} {
		if other, ok := got[s]; ok {
			t.Errorf("%d and %d are one", other, at)
		}
		got[s] = at
	}
	if Above(257, 2, 259, l[0], l[1]) != Above(1, 2, 3, l[0], l[1]) {
		t.Error("more than the lowest byte tells")
	}
}

// P7.1
func TestHeight(t *testing.T) {
	want := map[int]int{1: 0, 2: 1, 4: 2, 8: 3, 16: 4, 32: 5, 64: 6}
	l := []int{math.MaxInt, math.MinInt, 1 << 32, 1<<32 + 1, 1 << 62}
	for many := -300; many <= 300; many++ {
		l = append(l, many)
	}
	for _, many := range l {
		height, ok := want[many]
		if !ok {
			height = -1
		}
		if got := Height(many); got != height {
			t.Errorf("Height(%d): %d, not %d", many, got, height)
		}
	}
}

// P7.1: sums that another program made, over leaves of so many bytes 1, 2, ..
func TestKnownRoots(t *testing.T) {
	for height, want := range []string{
		"01010101010101010101010101010101", "aa19ac7d1404285a749867ff50ff5cc3", "bf171e36cd9ff21d34ff9c5b0f6e83be",
		"10a0aa6fbae52b3ad26317d9e479b343", "bbea137669d8270c104fb914dd052e51", "7f6eaa5d2dde7d625b01e73d3af1c2a3",
		"624dbfecf3275e09f38f524b4f6ec074",
	} {
		var l []api.Sum
		for at := range 1 << height {
			var leaf api.Sum
			for i := range leaf {
				leaf[i] = byte(at + 1)
			}
			l = append(l, leaf)
		}
		root := grown(t, owners[1], l).Root()
		if hex.EncodeToString(root[:]) != want {
			t.Errorf("of the height %d: %x, not %s", height, root, want)
		}
	}
}

// P7.1: of each height, root, leaves and paths; asked twice, as to be asked changes nothing.
func TestNew(t *testing.T) {
	for _, o := range owners {
		for height := range 7 {
			l := row(1 << height)
			g := grown(t, o, l)
			for range 2 {
				if got := g.Root(); got != top(o, l) {
					t.Errorf("Root of %v, of the height %d: %x", o, height, got)
				}
				for i := range l {
					if got, e := g.Leaf(i); got != l[i] || e != api.OK {
						t.Errorf("Leaf(%d): %x, %d", i, got, e)
					}
					if got, e := g.Path(i); !slices.Equal(got, beside(o, l, i)) || e != api.OK {
						t.Errorf("Path(%d) of %v, of the height %d: %x, %d", i, o, height, got, e)
					}
				}
			}
		}
	}
}

// P7.1: leaves may be one, or zero.
func TestNewOverLikeLeaves(t *testing.T) {
	for _, leaf := range []api.Sum{{}, row(1)[0]} {
		l := slices.Repeat([]api.Sum{leaf}, 8)
		g := grown(t, owners[1], l)
		if g.Root() != top(owners[1], l) {
			t.Errorf("Root over eight of %x: %x", leaf, g.Root())
		}
		for i := range l {
			if path, e := g.Path(i); !slices.Equal(path, beside(owners[1], l, i)) || e != api.OK {
				t.Errorf("Path(%d): %x, %d", i, path, e)
			}
		}
	}
}

// P7.1, Errors
func TestNewOverWrongNumbers(t *testing.T) {
	for many := range 140 {
		if slices.Contains([]int{1, 2, 4, 8, 16, 32, 64}, many) {
			continue
		}
		if g, e := New(1, 2, row(many)); g != nil || e != api.ErrArg {
			t.Errorf("New over %d: %v, %d", many, g, e)
		}
	}
	if g, e := New(1, 2, nil); g != nil || e != api.ErrArg {
		t.Errorf("New over nil: %v, %d", g, e)
	}
	if g, e := New(1, 2, make([]api.Sum, 1<<16)); g != nil || e != api.ErrArg {
		t.Errorf("New over many: %v, %d", g, e)
	}
}

// P7.1, Errors
func TestNoSuchLeaf(t *testing.T) {
	for height := range 7 {
		g := grown(t, owners[1], row(1<<height))
		for _, i := range []int{1 << height, 1<<height + 1, 2 << height, 64, 128, -1, -2, math.MaxInt, math.MinInt} {
			if got, e := g.Leaf(i); got != (api.Sum{}) || e != api.ErrArg {
				t.Errorf("Leaf(%d) of %d: %x, %d", i, 1<<height, got, e)
			}
			if got, e := g.Path(i); len(got) != 0 || e != api.ErrArg {
				t.Errorf("Path(%d) of %d: %x, %d", i, 1<<height, got, e)
			}
		}
	}
}

// P7.1, R1
func TestNilGrove(t *testing.T) {
	var g *Grove
	if g.Root() != (api.Sum{}) {
		t.Errorf("Root: %x", g.Root())
	}
	for _, i := range []int{0, 1, -1, math.MaxInt, math.MinInt} {
		if got, e := g.Leaf(i); got != (api.Sum{}) || e != api.ErrNil {
			t.Errorf("Leaf(%d): %x, %d", i, got, e)
		}
		if got, e := g.Path(i); len(got) != 0 || e != api.ErrNil {
			t.Errorf("Path(%d): %x, %d", i, got, e)
		}
	}
}

// R1: a tree that nobody made panics neither.
func TestUnmadeGrove(t *testing.T) {
	g := &Grove{}
	g.Root()
	for _, i := range []int{0, 1, -1, math.MaxInt, math.MinInt} {
		g.Leaf(i)
		g.Path(i)
	}
}

// R3: what is handed in is neither changed nor kept; what is handed out is new memory.
func TestGroveSharesNothing(t *testing.T) {
	room := row(12)
	g := grown(t, owners[1], room[:8])
	if !slices.Equal(room, row(12)) {
		t.Error("leaves were turned")
	}
	clear(room)
	for i := range 8 {
		path, _ := g.Path(i)
		clear(path[:cap(path)])
	}
	whole := grown(t, owners[1], row(8))
	for i := range 8 {
		got, _ := g.Path(i)
		want, _ := whole.Path(i)
		leaf, _ := g.Leaf(i)
		if !slices.Equal(got, want) || leaf != row(8)[i] || g.Root() != whole.Root() {
			t.Errorf("the leaf %d's: %x, %x", i, leaf, got)
		}
	}
}
