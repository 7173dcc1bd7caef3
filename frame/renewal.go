package frame

import (
	"fingerpost/api"
	"fingerpost/field"
	"fingerpost/renew"
)

// PutRenewal is a signed record's bytes.
func PutRenewal(x renew.Signed) ([]byte, api.Errno) {
	// Of a destination the lowest byte alone is laid, so that another one would be taken off again.
	if !isNode(x.Record.Dest) {
		return nil, api.ErrArg
	}
	o := field.Lay()
	renew.Put(o, x)
	return o.Bytes()
}

// GetRenewal is the signed record that bytes are.
func GetRenewal(b []byte) (renew.Signed, api.Errno) {
	i := field.Take(b)
	x := renew.Get(i)
	if e := i.End(); e != api.OK {
		return renew.Signed{}, e
	}
	if !isNode(x.Record.Dest) {
		return renew.Signed{}, api.ErrForm
	}
	return x, api.OK
}
