package diary

import (
	"bytes"
	"fingerpost/api"
	"fingerpost/slate"
	"math/rand"
	"slices"
	"testing"
)

// keeper is a device in use, and what it may tell behind a crash.
type keeper struct {
	s    *slate.Slate
	may  [][][]byte
	told [][]byte // by the last Load
	next uint32
}

// opens holds Load to what it may tell.
func (k *keeper) opens(t *testing.T) {
	t.Helper()
	l, next, e := Load(k.s)
	if e != api.OK {
		t.Fatalf("Load: %d", e)
	}
	k.told, k.next = l, next
	if !slices.ContainsFunc(k.may, func(x [][]byte) bool { return alike(l, x) }) {
		t.Fatalf("Load: %q, not of %q", l, k.may)
	}
	if k.s.Loose() == 0 {
		k.may = [][][]byte{l}
	}
}

// starts starts the generation that was told.
func (k *keeper) starts(l [][]byte) (*Diary, bool) {
	d, e := Start(k.s, k.next, l)
	if e != api.OK {
		k.may = append(k.may, l)
		return nil, false
	}
	k.may = [][][]byte{l}
	return d, true
}

// appends appends a record, and may flush it.
func (k *keeper) appends(d *Diary, p []byte, flush bool) {
	last := k.may[len(k.may)-1]
	e := d.Append(p)
	if e == api.OK || e == api.ErrDown {
		k.may = append(k.may, append(append([][]byte(nil), last...), p))
	}
	if e == api.OK && flush && d.Flush() == api.OK {
		k.may = k.may[len(k.may)-1:]
	}
}

// crash lets the power go behind so many writes less than there are, and so many bytes.
func (k *keeper) crash(lost, bytes int) {
	k.s.Crash(k.s.Loose()-lost, bytes)
}

// tears are the ends of a sector's parts, and what is near them.
func tears() []int {
	return []int{0, 1, 3, 4, 5, 6, 8, 30, 57, 58, 59, 60, 61, 63, 64}
}

// P15.3: the power goes at each step of a life, the last of its writes is lost or torn, or that ahead of it.
func TestEachStep(t *testing.T) {
	for fuse := range 30 {
		for lost := range 3 {
			for _, tear := range tears() {
				k := &keeper{s: device(t, 24), may: [][][]byte{nil}}
				for round := range 3 {
					if round == 1 {
						k.s.Fuse(fuse)
					}
					k.opens(t)
					if d, ok := k.starts([][]byte{{byte(round)}, text(60 - 20*round)}); ok {
						k.appends(d, nil, false)
						k.appends(d, text(110), true)
						k.appends(d, []byte("b"), false)
						k.appends(d, text(51), false)
					}
					if k.s.Down() {
						break
					}
				}
				k.crash(lost, tear)
				k.opens(t)
				if _, ok := k.starts(recs("last")); !ok {
					t.Fatal("a generation doesn't start any more")
				}
				k.opens(t)
			}
		}
	}
}

// cut is where a start was cut off: behind so many steps, the last write torn.
type cut struct {
	fuse, tear int
}

// lives starts a generation behind some that were cut off.
func lives(t *testing.T, sure bool, snapshots [][][]byte, cuts []cut) {
	t.Helper()
	k := &keeper{s: device(t, 8), may: [][][]byte{nil}}
	if sure {
		k.opens(t)
		k.starts(recs("sure"))
	}
	for at, x := range cuts {
		k.opens(t)
		k.s.Fuse(x.fuse)
		k.starts(snapshots[at])
		k.crash(1, x.tear)
	}
	k.opens(t)
	if _, ok := k.starts(snapshots[len(cuts)]); !ok {
		t.Fatal("a generation doesn't start any more")
	}
	k.opens(t)
}

// P15.3: starts are cut off again and again, at any step, with snapshots that are longer and shorter than the ones ahead: no sector of an elder one counts.
func TestCutsOfCuts(t *testing.T) {
	snapshots := [][][]byte{recs("a", "b", "c"), recs("d"), recs("e", "f"), nil}
	var cuts []cut
	for fuse := 1; fuse < 6; fuse++ {
		for _, tear := range []int{3, 4, 20, 40, 60, 63, 64} {
			cuts = append(cuts, cut{fuse, tear})
		}
	}
	for _, sure := range []bool{false, true} {
		for _, a := range cuts {
			for _, b := range cuts {
				for _, c := range cuts {
					lives(t, sure, snapshots, []cut{a, b, c})
				}
			}
		}
	}
}

// P15.2, P15.3: a generation that Load tells anew, as one behind it was torn, has none of the sectors that its elder try left.
func TestGenerationToldAnew(t *testing.T) {
	s := device(t, 16)
	starts(t, s, 1, recs("sure"))
	s.Fuse(5)
	Start(s, 2, recs("a", "b", "c", "d", "e", "f"))
	s.Crash(5, 0)
	loads(t, "cut off", s, recs("sure"), 4, api.OK)
	s.Fuse(1)
	Start(s, 4, recs("g"))
	s.Crash(0, 30)
	loads(t, "torn", s, recs("sure"), 2, api.OK)
	starts(t, s, 2, recs("h"))
	loads(t, "told anew", s, recs("h"), 3, api.OK)
	s.Crash(0, 0)
	loads(t, "told anew", s, recs("h"), 3, api.OK)
}

// P15.3: any lives.
func TestAnyLife(t *testing.T) {
	cutStarts, alives := 0, 0
	for seed := range int64(4000) {
		r := rand.New(rand.NewSource(seed))
		k := &keeper{s: device(t, 2+r.Intn(30)), may: [][][]byte{nil}}
		n := byte(0)
		record := func() []byte {
			n++
			return bytes.Repeat([]byte{n}, r.Intn(120)>>r.Intn(7))
		}
		for range 20 {
			k.opens(t)
			snapshot := k.told
			if r.Intn(3) > 0 {
				snapshot = nil
				for range r.Intn(4) {
					snapshot = append(snapshot, record())
				}
			}
			k.s.Fuse(r.Intn(20) - 3)
			d, ok := k.starts(snapshot)
			if ok {
				alives++
				for range r.Intn(5) {
					k.appends(d, record(), r.Intn(2) == 0)
				}
			} else {
				cutStarts++
			}
			tear := tears()[r.Intn(len(tears()))]
			if r.Intn(2) == 0 {
				k.crash(r.Intn(3), tear)
			} else {
				k.s.Crash(r.Intn(4), tear)
			}
		}
	}
	if cutStarts < 10000 || alives < 10000 {
		t.Errorf("%d starts were cut off, %d not", cutStarts, alives)
	}
}
