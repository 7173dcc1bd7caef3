package sha

import (
	"bytes"
	"encoding/hex"
	"fingerpost/api"
	"strings"
	"testing"
)

func unhexed(t *testing.T, text string, want []byte) {
	t.Helper()
	if p, e := Unhex(text); !bytes.Equal(p, want) || e != api.OK {
		t.Errorf("Unhex(%q): %x, %d", text, p, e)
	}
}

// P4.3
func TestHex(t *testing.T) {
	for _, x := range []struct {
		p    []byte
		want string
	}{
		{nil, ""}, {[]byte{}, ""},
		{[]byte{0}, "00"}, {[]byte{9}, "09"}, {[]byte{0x0a}, "0a"}, {[]byte{0xf0}, "f0"}, {[]byte{255}, "ff"},
		{[]byte{0x01, 0x23, 0x45, 0x67, 0x89, 0xab, 0xcd, 0xef}, "0123456789abcdef"},
	} {
		if got := Hex(x.p); got != x.want {
			t.Errorf("Hex(%v): %q", x.p, got)
		}
		unhexed(t, x.want, x.p)
	}
}

// P4.3: of each byte, in each place of three.
func TestHexOfEachByte(t *testing.T) {
	for b := range 256 {
		for at := range 3 {
			p := []byte{0x5a, 0x5a, 0x5a}
			p[at] = byte(b)
			if got := Hex(p); got != hex.EncodeToString(p) {
				t.Errorf("Hex(%v): %q", p, got)
			}
			unhexed(t, Hex(p), p)
		}
	}
	all := text(5000)
	unhexed(t, Hex(all), all)
}

func notUnhexed(t *testing.T, text string) {
	t.Helper()
	if p, e := Unhex(text); len(p) != 0 || e != api.ErrForm {
		t.Errorf("Unhex(%q): %x, %d", text, p, e)
	}
}

// P4.3, Errors
func TestUnhexOfWrongTexts(t *testing.T) {
	for _, text := range []string{
		"0", "000", "abc", "0G", "g0", "0A", "A0", "AB", "FF", "0x", "0x00", " 00", "00 ", " 0", "0 ", "00\n", "-1", "+1",
		"é", "é0", "٠٠", "a\x00", "\xff\xff", "00zz", "zz00", "00zz00", strings.Repeat("0", 9999), strings.Repeat("0", 9999) + "g",
	} {
		notUnhexed(t, text)
	}
}

// P4.3, Errors: no other byte is a digit, be it first or second.
func TestUnhexOfEachByte(t *testing.T) {
	for b := range 256 {
		digit := string([]byte{byte(b)})
		if strings.Contains("0123456789abcdef", digit) {
			continue
		}
		notUnhexed(t, "a1"+digit+"1")
		notUnhexed(t, "a1"+"1"+digit)
		notUnhexed(t, digit+digit)
	}
}

// R3: what is handed in isn't changed; what is handed out is new memory.
func TestHexSharesNothing(t *testing.T) {
	room := text(9)
	Hex(room[:4])
	if !bytes.Equal(room, text(9)) {
		t.Error("bytes were turned")
	}
	first, _ := Unhex("0102")
	second, _ := Unhex("0102")
	clear(first[:cap(first)])
	if !bytes.Equal(second, []byte{1, 2}) {
		t.Errorf("two answers share memory: %v", second)
	}
}
