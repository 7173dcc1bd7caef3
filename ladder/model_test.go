package ladder

import (
	"crypto/sha256"
	"encoding/binary"
	"encoding/hex"
	"fingerpost/api"
	"fingerpost/sha"
	"math"
	"testing"
)

// widths are all that there are.
var widths = []int{1, 2, 4, 8}

// noWidths, noRungs are none, at the edges and far off.
var noWidths = []int{0, 3, 5, 6, 7, 9, 12, 16, 32, 64, -1, -2, -4, -8, math.MaxInt, math.MinInt, 1 << 32, 1<<32 + 4}

var noRungs = []int{-1, 16, 17, 256, 260, -256, math.MaxInt, math.MinInt, 1 << 32}

// places are such as honest nodes have, and such as nobody has: of any numbers.
var places = []Place{
	{}, {1, 2, 3}, {7, api.MaxEpoch, 63}, {5, 0x01020304, 0x05060708},
	{-1, math.MaxUint32, math.MaxUint32}, {256, 1, 0}, {math.MaxInt, 0, 1}, {math.MinInt, 1 << 31, 1 << 31},
}

// some is a short sum of no meaning, another one for each number.
func some(number int) api.Sum {
	d := sha256.Sum256([]byte{'?', byte(number), byte(number >> 8)})
	return api.Sum(d[:16])
}

// maker makes what the chapter's words tell, by another program's sums, and notes how many blocks it took.
type maker struct{ blocks int }

func (m *maker) sum(text []byte) api.Sum {
	m.blocks += sha.Blocks(len(text))
	d := sha256.Sum256(text)
	return api.Sum(d[:16])
}

func head(kind byte, p Place, rung int) []byte {
	b := []byte{kind, byte(uint64(p.Dest) % 256)}
	b = binary.BigEndian.AppendUint32(b, p.Epoch)
	b = binary.BigEndian.AppendUint32(b, p.Seq)
	return append(b, byte(uint64(rung)%256))
}

func (m *maker) leaf(p Place, rung int, e api.Sum, id int) api.Sum {
	return m.sum(append(append(head('L', p, rung), e[:]...), byte(uint64(id)%256)))
}

func (m *maker) join(p Place, rung int, a, b api.Sum) api.Sum {
	return m.sum(append(append(head('J', p, rung), a[:]...), b[:]...))
}

// part is what stands above the nodes from first on, below last, in a rung's tree.
func (m *maker) part(p Place, rung int, e api.Sum, first, last int) api.Sum {
	if last-first == 1 {
		return m.leaf(p, rung, e, first)
	}
	middle := (first + last) / 2
	return m.join(p, rung, m.part(p, rung, e, first, middle), m.part(p, rung, e, middle, last))
}

// shown is a node's leaf and way: each beside what stands above the node, from the leaves on.
func (m *maker) shown(p Place, rung int, e api.Sum, width, id int) (api.Sum, []api.Sum) {
	var way []api.Sum
	for size := 1; size < width; size *= 2 {
		own := id / size * size
		beside := own + size
		if own/size%2 == 1 {
			beside = own - size
		}
		way = append(way, m.part(p, rung, e, beside, beside+size))
	}
	return m.leaf(p, rung, e, id), way
}

// risen is what stands above a leaf by a way, top down: so another way round than the program.
func (m *maker) risen(p Place, rung, first, width, id int, l api.Sum, way []api.Sum) api.Sum {
	if len(way) == 0 {
		return l
	}
	beside, rest := way[len(way)-1], way[:len(way)-1]
	if id < first+width/2 {
		return m.join(p, rung, m.risen(p, rung, first, width/2, id, l, rest), beside)
	}
	return m.join(p, rung, beside, m.risen(p, rung, first+width/2, width/2, id, l, rest))
}

func isSum(t *testing.T, what string, got api.Sum, want string) {
	t.Helper()
	if hex.EncodeToString(got[:]) != want {
		t.Errorf("%s: %x, not %s", what, got, want)
	}
}
