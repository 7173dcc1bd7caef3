package frame

import (
	"bytes"
	"crypto/hmac"
	"crypto/sha256"
	"encoding/binary"
	"encoding/hex"
	"fingerpost/api"
	"fingerpost/proof"
	"fingerpost/renew"
	"math"
	"math/rand"
	"slices"
	"testing"
)

// counting is the key of the bytes 0 to 31.
func counting() api.Digest {
	var d api.Digest
	for at := range d {
		d[at] = byte(at)
	}
	return d
}

// text is so many bytes, unlike their neighbours.
func text(size int) []byte {
	b := make([]byte, size)
	for at := range b {
		b[at] = byte(at % 251)
	}
	return b
}

// some is a short sum of no meaning, another one for each number.
func some(number int) api.Sum {
	d := sha256.Sum256([]byte{'?', byte(number), byte(number >> 8)})
	return api.Sum(d[:16])
}

func sums(first, many int) []api.Sum {
	var l []api.Sum
	for n := range many {
		l = append(l, some(first+n))
	}
	return l
}

func (f Frame) is(g Frame) bool {
	return f.From == g.From && f.To == g.To && f.Boot == g.Boot && f.Count == g.Count && f.Kind == g.Kind && bytes.Equal(f.Body, g.Body)
}

func (f Frame) isZero() bool {
	return f.is(Frame{})
}

func (x Entry) is(y Entry) bool {
	return x.Dest == y.Dest && x.Key == y.Key && x.Cred.Leaf == y.Cred.Leaf && slices.Equal(x.Cred.Way, y.Cred.Way) && slices.Equal(x.Cred.Path, y.Cred.Path)
}

func (u Update) is(v Update) bool {
	return u.Full == v.Full && slices.EqualFunc(u.Entries, v.Entries, Entry.is)
}

func (h Hello) is(g Hello) bool {
	return h.Heard == g.Heard && slices.Equal(h.Wants, g.Wants)
}

// noNodes are no nodes, at the edges and far off; of some the lowest byte is one.
var noNodes = []int{-1, -2, 8, 9, 255, 256, 257, -255, 1 << 32, math.MaxInt, math.MinInt}

// rightFrames have the least and the greatest numbers, and all kinds.
func rightFrames() []Frame {
	l := []Frame{{1, 0, 2, 3, IsHello, []byte{4}}, {0, 7, 1, 1, IsUpdate, nil}, {7, 0, math.MaxUint64, math.MaxUint64, IsPiece, []byte{0}}}
	for kind := 1; kind <= 4; kind++ {
		for from := range 8 {
			for to := range 8 {
				if from != to {
					l = append(l, Frame{from, to, uint64(1) << (8 * from), 0x0102030405060708, kind, text(to * from)})
				}
			}
		}
	}
	for _, size := range []int{0, 1, 31, 32, 33, 41, 42, 255, 256, 257, 1024, 4095, 4096} {
		l = append(l, Frame{6, 5, 1, 1 << 63, IsRenewal, text(size)})
	}
	return l
}

// wrongFrames aren't right, each by one thing; those that bytes may tell come first, and there are so many of them.
func wrongFrames() ([]Frame, int) {
	good := Frame{1, 2, 3, 4, IsHello, []byte{5, 6}}
	var l []Frame
	with := func(change func(f *Frame)) {
		f := good
		change(&f)
		l = append(l, f)
	}
	for _, n := range []int{8, 9, 127, 128, 255} {
		with(func(f *Frame) { f.From = n })
		with(func(f *Frame) { f.To = n })
	}
	with(func(f *Frame) { f.From = 2 })
	with(func(f *Frame) { f.From, f.To = 0, 0 })
	with(func(f *Frame) { f.From, f.To = 7, 7 })
	with(func(f *Frame) { f.Boot = 0 })
	with(func(f *Frame) { f.Count = 0 })
	for _, kind := range []int{0, 5, 6, 128, 255} {
		with(func(f *Frame) { f.Kind = kind })
	}
	told := len(l)
	for _, n := range noNodes {
		with(func(f *Frame) { f.From = n })
		with(func(f *Frame) { f.To = n })
	}
	for _, kind := range []int{-1, 256, 257, 258, -255, 1<<32 + 1, math.MaxInt, math.MinInt} {
		with(func(f *Frame) { f.Kind = kind })
	}
	for _, size := range []int{4097, 4098, 1 << 14, 1 << 16, 1<<16 + 1, 1 << 17} {
		with(func(f *Frame) { f.Body = make([]byte, size) })
	}
	return l, told
}

func unhex(t *testing.T, digits string) []byte {
	t.Helper()
	b, err := hex.DecodeString(digits)
	if err != nil {
		t.Fatal(err)
	}
	return b
}

// The rest makes what the chapter's words tell, by other programs' sums and numbers.

func tagOf(key api.Digest, b []byte) []byte {
	m := hmac.New(sha256.New, key[:])
	m.Write(b)
	return m.Sum(nil)[:16]
}

// untagged is a frame without its tag, right or not, of the lowest bytes of its numbers.
func untagged(f Frame) []byte {
	b := []byte{1, byte(f.From), byte(f.To)}
	b = binary.BigEndian.AppendUint64(b, f.Boot)
	b = binary.BigEndian.AppendUint64(b, f.Count)
	b = append(b, byte(f.Kind))
	b = binary.BigEndian.AppendUint16(b, uint16(len(f.Body)))
	return append(b, f.Body...)
}

func tagged(key api.Digest, b []byte) []byte {
	return append(slices.Clone(b), tagOf(key, b)...)
}

// entryBytes are an entry's, right or not, of the lowest bytes of its numbers.
func entryBytes(x Entry) []byte {
	b := binary.BigEndian.AppendUint32([]byte{byte(x.Dest)}, x.Key.Epoch)
	b = append(b, byte(x.Key.Seq), byte(x.Key.Metric))
	b = append(b, x.Cred.Leaf[:]...)
	for _, l := range [][]api.Sum{x.Cred.Way, x.Cred.Path} {
		b = append(b, byte(len(l)))
		for _, s := range l {
			b = append(b, s[:]...)
		}
	}
	return b
}

func updateBytes(u Update) []byte {
	b := []byte{0, byte(len(u.Entries))}
	if u.Full {
		b[0] = 1
	}
	for _, x := range u.Entries {
		b = append(b, entryBytes(x)...)
	}
	return b
}

func helloBytes(h Hello) []byte {
	b := []byte{h.Heard, byte(len(h.Wants))}
	for _, n := range h.Wants {
		b = binary.BigEndian.AppendUint32(b, n)
	}
	return b
}

func renewalBytes(x renew.Signed) []byte {
	b := binary.BigEndian.AppendUint32([]byte{byte(x.Record.Dest)}, x.Record.Epoch)
	b = append(append(b, x.Record.Root[:]...), x.Record.Next[:]...)
	for _, s := range x.Sig {
		b = append(b, s[:]...)
	}
	return b
}

// reader takes fields off bytes that stay whole, one by one.
type reader struct {
	b  []byte
	at int
	e  api.Errno
}

func (r *reader) fail(e api.Errno) {
	if r.e == api.OK {
		r.e = e
	}
}

func (r *reader) bytes(many int) []byte {
	if r.e == api.OK && r.at+many > len(r.b) {
		r.e = api.ErrShort
	}
	if r.e != api.OK {
		return make([]byte, many)
	}
	r.at += many
	return r.b[r.at-many : r.at]
}

func (r *reader) number(size int) uint64 {
	var n uint64
	for _, b := range r.bytes(size) {
		n = n*256 + uint64(b)
	}
	return n
}

// many is a number that is at most most.
func (r *reader) many(size, most int) int {
	n := int(r.number(size))
	if n > most {
		r.fail(api.ErrLimit)
		return 0
	}
	return n
}

func (r *reader) sum() api.Sum {
	return api.Sum(r.bytes(16))
}

func (r *reader) sums(most int) []api.Sum {
	var l []api.Sum
	for range r.many(1, most) {
		l = append(l, r.sum())
	}
	return l
}

func (r *reader) end() {
	if r.at < len(r.b) {
		r.fail(api.ErrForm)
	}
}

func readFrame(key *api.Digest, b []byte) (Frame, api.Errno) {
	r := &reader{b: b}
	if r.number(1) != 1 {
		r.fail(api.ErrForm)
	}
	from, to := int(r.number(1)), int(r.number(1))
	boot, count := r.number(8), r.number(8)
	kind := int(r.number(1))
	body := r.bytes(r.many(2, 4096))
	tag := r.bytes(16)
	r.end()
	if from > 7 || to > 7 || from == to || boot == 0 || count == 0 || kind < 1 || kind > 4 {
		r.fail(api.ErrForm)
	}
	if r.e == api.OK && key != nil && !bytes.Equal(tag, tagOf(*key, b[:len(b)-16])) {
		r.fail(api.ErrMac)
	}
	if r.e != api.OK {
		return Frame{}, r.e
	}
	return Frame{from, to, boot, count, kind, body}, api.OK
}

func readUpdate(b []byte) (Update, api.Errno) {
	r := &reader{b: b}
	full := r.number(1)
	if full != 0 && full != 1 {
		r.fail(api.ErrForm)
	}
	u := Update{Full: full == 1}
	for at := range r.many(1, 8) {
		x := Entry{Dest: int(r.number(1))}
		x.Key = api.Key{Epoch: uint32(r.number(4)), Seq: uint32(r.number(1)), Metric: int(r.number(1))}
		x.Cred = proof.Cred{Leaf: r.sum(), Way: r.sums(3), Path: r.sums(6)}
		if at > 0 && x.Dest <= u.Entries[at-1].Dest || x.Dest > 7 || x.Key.Epoch > 65536 || x.Key.Seq > 63 || x.Key.Metric > 15 {
			r.fail(api.ErrForm)
		}
		u.Entries = append(u.Entries, x)
	}
	r.end()
	if r.e != api.OK {
		return Update{}, r.e
	}
	return u, api.OK
}

func readHello(b []byte) (Hello, api.Errno) {
	r := &reader{b: b}
	h := Hello{Heard: uint8(r.number(1))}
	for range r.many(1, 8) {
		h.Wants = append(h.Wants, uint32(r.number(4)))
	}
	r.end()
	if r.e != api.OK {
		return Hello{}, r.e
	}
	return h, api.OK
}

func readRenewal(b []byte) (renew.Signed, api.Errno) {
	r := &reader{b: b}
	x := renew.Signed{Record: renew.Record{Dest: int(r.number(1)), Epoch: uint32(r.number(4)), Root: r.sum(), Next: r.sum()}}
	for chain := range x.Sig {
		x.Sig[chain] = r.sum()
	}
	r.end()
	if x.Record.Dest > 7 {
		r.fail(api.ErrForm)
	}
	if r.e != api.OK {
		return renew.Signed{}, r.e
	}
	return x, api.OK
}

// spoilt is bytes of which one or two were turned, left out, doubled or added, or whose end was cut, or nothing was done to.
func spoilt(r *rand.Rand, b []byte) []byte {
	b = bytes.Clone(b)
	for range r.Intn(3) {
		at := r.Intn(len(b) + 1)
		if r.Intn(2) == 0 {
			at = min(at, r.Intn(12))
		}
		switch kind := r.Intn(5); {
		case kind == 0:
			b = slices.Insert(b, at, byte(r.Intn(256)>>r.Intn(9)))
		case kind == 1:
			b = b[:at]
		case at == len(b):
		case kind == 2:
			b = slices.Delete(b, at, at+1)
		case kind == 3:
			b[at] = byte(r.Intn(256) >> r.Intn(9))
		case kind == 4:
			b[at] ^= 1 << r.Intn(8)
		}
	}
	return b
}
