package sha

import (
	"fingerpost/api"
	"strings"
)

const digits = "0123456789abcdef"

// Hex is bytes as hexadecimal digits.
func Hex(p []byte) string {
	var t strings.Builder
	t.Grow(2 * len(p))
	for _, b := range p {
		t.WriteByte(digits[b>>4])
		t.WriteByte(digits[b&15])
	}
	return t.String()
}

// Unhex is the bytes that hexadecimal digits are.
func Unhex(t string) ([]byte, api.Errno) {
	if len(t)%2 != 0 {
		return nil, api.ErrForm
	}
	p := make([]byte, len(t)/2)
	for at := range p {
		high := strings.IndexByte(digits, t[2*at])
		low := strings.IndexByte(digits, t[2*at+1])
		if high < 0 || low < 0 {
			return nil, api.ErrForm
		}
		p[at] = byte(high<<4 | low)
	}
	return p, api.OK
}
