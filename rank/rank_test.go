package rank

import (
	"fingerpost/api"
	"math"
	"slices"
	"strings"
	"testing"
)

func key(epoch, seq uint32, metric int) api.Key {
	return api.Key{Epoch: epoch, Seq: seq, Metric: metric}
}

// rising are keys from the worst to the best one, the ends of their numbers among them.
func rising() []api.Key {
	var l []api.Key
	for _, epoch := range []uint32{0, 1, 2, 65535, 65536, 65537, math.MaxUint32} {
		for _, seq := range []uint32{0, 1, 5, 63, 64, math.MaxUint32} {
			for _, metric := range []int{math.MaxInt, 16, 15, 9, 1, 0, -1, math.MinInt} {
				l = append(l, key(epoch, seq, metric))
			}
		}
	}
	return l
}

// wrong are keys that aren't right, each by one number alone.
func wrong() []api.Key {
	return []api.Key{
		key(65537, 0, 0), key(math.MaxUint32, 0, 0),
		key(0, 64, 0), key(0, math.MaxUint32, 0),
		key(0, 0, 16), key(0, 0, math.MaxInt), key(0, 0, -1), key(0, 0, math.MinInt),
	}
}

// P1.1
func TestRight(t *testing.T) {
	for _, k := range []api.Key{{}, key(65536, 63, 15), key(65536, 0, 0), key(0, 63, 0), key(0, 0, 15), key(7, 8, 9)} {
		if !Right(k) {
			t.Errorf("%v isn't right", k)
		}
	}
	for _, k := range wrong() {
		if Right(k) {
			t.Errorf("%v is right", k)
		}
	}
}

// P1.1
func TestCompare(t *testing.T) {
	l := rising()
	for i, a := range l {
		for j, b := range l {
			want := 0
			if i > j {
				want = 1
			} else if i < j {
				want = -1
			}
			if got := Compare(a, b); got != want {
				t.Fatalf("Compare(%v, %v): %d, not %d", a, b, got, want)
			}
		}
	}
}

// P1.1
func TestNewer(t *testing.T) {
	for _, x := range []struct {
		a, b api.Key
		want bool
	}{
		{key(2, 0, 9), key(1, 5, 0), true},
		{key(1, 5, 0), key(2, 0, 9), false},
		{key(1, 5, 9), key(1, 4, 0), true},
		{key(1, 4, 0), key(1, 5, 9), false},
		{key(1, 5, 1), key(1, 5, 2), false},
		{key(1, 5, 2), key(1, 5, 1), false},
		{key(1, 5, 1), key(1, 5, 1), false},
		{key(2, 3, 0), key(1, 4, 0), true},
		{key(1, 4, 0), key(2, 3, 0), false},
		{key(math.MaxUint32, math.MaxUint32, -1), key(math.MaxUint32, math.MaxUint32-1, -1), true},
	} {
		if got := Newer(x.a, x.b); got != x.want {
			t.Errorf("Newer(%v, %v): %v", x.a, x.b, got)
		}
	}
}

// P1.1
func TestBest(t *testing.T) {
	a, b, c := key(1, 5, 2), key(1, 5, 1), key(2, 0, 9)
	for _, x := range []struct {
		l    []api.Key
		want int
	}{
		{nil, -1},
		{[]api.Key{}, -1},
		{[]api.Key{a}, 0},
		{[]api.Key{{}}, 0},
		{[]api.Key{a, b, c}, 2},
		{[]api.Key{c, b, a}, 0},
		{[]api.Key{a, c, b}, 1},
		{[]api.Key{a, c, c}, 1},
		{[]api.Key{b, a, b}, 0},
		{[]api.Key{key(0, 0, math.MaxInt), key(0, 0, math.MinInt)}, 1},
	} {
		was := slices.Clone(x.l)
		if got := Best(x.l); got != x.want {
			t.Errorf("Best(%v): %d, not %d", x.l, got, x.want)
		}
		if !slices.Equal(x.l, was) {
			t.Errorf("Best turned %v into %v", was, x.l)
		}
	}
}

// P1.2
func TestHop(t *testing.T) {
	for metric := range 15 {
		if k, e := Hop(key(65536, 63, metric)); k != key(65536, 63, metric+1) || e != api.OK {
			t.Errorf("Hop at %d: %v, %d", metric, k, e)
		}
	}
	if k, e := Hop(key(1, 5, 15)); k != (api.Key{}) || e != api.ErrLimit {
		t.Errorf("Hop at 15: %v, %d", k, e)
	}
	// The metric of some of these is the greatest one, but that they aren't right comes first.
	for _, w := range append(wrong(), key(65537, 0, 15), key(0, 64, 15)) {
		if k, e := Hop(w); k != (api.Key{}) || e != api.ErrArg {
			t.Errorf("Hop(%v): %v, %d", w, k, e)
		}
	}
}

// P1.2
func TestNext(t *testing.T) {
	for _, x := range []struct {
		k      api.Key
		height int
		want   api.Key
		e      api.Errno
	}{
		{key(1, 3, 4), 2, key(2, 0, 0), api.OK},
		{key(1, 2, 4), 2, key(1, 3, 0), api.OK},
		{key(1, 0, 15), 0, key(2, 0, 0), api.OK},
		{key(1, 0, 0), 1, key(1, 1, 0), api.OK},
		{key(1, 62, 0), 6, key(1, 63, 0), api.OK},
		{key(1, 63, 0), 6, key(2, 0, 0), api.OK},
		{key(1, 50, 7), 2, key(2, 0, 0), api.OK},
		{key(1, 63, 7), 0, key(2, 0, 0), api.OK},
		{key(65535, 3, 1), 2, key(65536, 0, 0), api.OK},
		{key(65536, 2, 1), 2, key(65536, 3, 0), api.OK},
		{key(65536, 3, 1), 2, api.Key{}, api.ErrSpent},
		{key(65536, 0, 0), 0, api.Key{}, api.ErrSpent},
		{key(65536, 63, 15), 6, api.Key{}, api.ErrSpent},
		{key(1, 3, 4), -1, api.Key{}, api.ErrArg},
		{key(1, 3, 4), 7, api.Key{}, api.ErrArg},
		{key(1, 3, 4), math.MinInt, api.Key{}, api.ErrArg},
		{key(1, 3, 4), math.MaxInt, api.Key{}, api.ErrArg},
		{key(65536, 63, 15), 7, api.Key{}, api.ErrArg},
	} {
		if k, e := Next(x.k, x.height); k != x.want || e != x.e {
			t.Errorf("Next(%v, %d): %v, %d, not %v, %d", x.k, x.height, k, e, x.want, x.e)
		}
	}
	for _, w := range append(wrong(), key(65536, 64, 0)) {
		if k, e := Next(w, 6); k != (api.Key{}) || e != api.ErrArg {
			t.Errorf("Next(%v, 6): %v, %d", w, k, e)
		}
	}
}

// P1.2: by Next all sequences come, each once, each newer than the one ahead.
func TestNextGoesThroughAll(t *testing.T) {
	for height := 0; height <= api.MaxHeight; height++ {
		k, many := key(65500, 0, 3), 1
		for {
			n, e := Next(k, height)
			if e == api.ErrSpent {
				break
			}
			if e != api.OK || !Newer(n, k) || !Right(n) || n.Metric != 0 {
				t.Fatalf("Next(%v, %d): %v, %d", k, height, n, e)
			}
			k = n
			many++
		}
		if want := 37 << height; many != want {
			t.Errorf("height %d: %d sequences, not %d", height, many, want)
		}
	}
}

// P1.3
func TestText(t *testing.T) {
	for _, x := range []struct {
		k    api.Key
		want string
	}{
		{api.Key{}, "0.0/0"},
		{key(1, 5, 3), "1.5/3"},
		{key(65536, 63, 15), "65536.63/15"},
		{key(0, 0, -1), "0.0/-1"},
		{key(math.MaxUint32, math.MaxUint32, math.MinInt64), "4294967295.4294967295/-9223372036854775808"},
		{key(0, 10, math.MaxInt64), "0.10/9223372036854775807"},
	} {
		if got := Text(x.k); got != x.want {
			t.Errorf("Text(%v): %q, not %q", x.k, got, x.want)
		}
	}
}

// P1.3
func TestParse(t *testing.T) {
	for _, epoch := range []uint32{0, 1, 9, 10, 99, 65535, 65536} {
		for seq := range uint32(64) {
			for metric := range 16 {
				k := key(epoch, seq, metric)
				if got, e := Parse(Text(k)); got != k || e != api.OK {
					t.Fatalf("Parse(%q): %v, %d", Text(k), got, e)
				}
			}
		}
	}
	for _, k := range wrong() {
		if got, e := Parse(Text(k)); got != (api.Key{}) || e != api.ErrForm {
			t.Errorf("Parse(%q): %v, %d", Text(k), got, e)
		}
	}
}

// P1.3
func TestParseOfWrongTexts(t *testing.T) {
	for _, s := range []string{
		"", ".", "/", "./", "1", "1.5", "1/3", "1.5/", "1./3", ".5/3", "1/1.1", "1.5.3", "1/5/3",
		"01.0/0", "0.01/0", "0.0/01", "00.0/0", "+1.5/3", "1.+5/3", "1.5/+3", "-1.5/3", "1.5/-3", "1.5/-0", "-0.0/0",
		" 1.5/3", "1.5/3 ", "1 .5/3", "1. 5/3", "1.5/3\n", "1.5/3\x00", "1.5/3/", "1.5/3.", ".1.5/3", "1.5//3", "1..5/3",
		"1_0.5/3", "0x1.5/3", "1.5/a", "a.5/3", "1.5/1e1", "1,5/3", "1.5/3/0", "1.5/3.0", "1.5\\3", "\u0661.5/3", "\uff11.5/3", "\xff.5/3",
		"65537.0/0", "0.64/0", "0.0/16", "4294967296.0/0", "4294967297.5/3", "1.4294967301/3", "1.5/4294967299",
		"18446744073709551617.5/3", "1.18446744073709551621/3", "1.5/18446744073709551619", "1.5/9223372036854775808",
		strings.Repeat("9", 1<<16) + ".5/3", "1.5/" + strings.Repeat("0", 1<<16), strings.Repeat(".", 1<<16),
	} {
		if k, e := Parse(s); k != (api.Key{}) || e != api.ErrForm {
			t.Errorf("Parse(%.40q): %v, %d", s, k, e)
		}
	}
}

// P1.3: what is one byte off is another key's text, or none.
func TestParseOfTurnedTexts(t *testing.T) {
	for _, k := range []api.Key{{}, key(1, 5, 3), key(65536, 63, 15)} {
		text := Text(k)
		for at := range text {
			for b := range 256 {
				turned := text[:at] + string([]byte{byte(b)}) + text[at+1:]
				got, e := Parse(turned)
				if e == api.OK && Text(got) != turned || e != api.OK && (e != api.ErrForm || got != (api.Key{})) {
					t.Fatalf("Parse(%q): %v, %d", turned, got, e)
				}
			}
		}
	}
}
