package frame

import (
	"fingerpost/api"
	"fingerpost/field"
)

// Hello is a sign of life: whom the sender hears, and of each destination the epoch whose record it lacks.
type Hello struct {
	Heard uint8
	Wants []uint32
}

// PutHello is a hello's bytes.
func PutHello(h Hello) []byte {
	wants := h.Wants[:min(len(h.Wants), api.MaxNodes)]
	o := field.Lay()
	o.U8(uint64(h.Heard))
	o.U8(uint64(len(wants)))
	for _, epoch := range wants {
		o.U32(uint64(epoch))
	}
	b, _ := o.Bytes()
	return b
}

// GetHello is the hello that bytes are.
func GetHello(b []byte) (Hello, api.Errno) {
	i := field.Take(b)
	h := Hello{Heard: uint8(i.U8())}
	for range many(i) {
		h.Wants = append(h.Wants, uint32(i.U32()))
	}
	if e := i.End(); e != api.OK {
		return Hello{}, e
	}
	return h, api.OK
}
