package mac

import "fingerpost/api"

// Equal says whether two rows of bytes are one; it looks at all of them.
func Equal(a, b []byte) bool {
	// No early way out: how long it takes tells nothing of where two tags begin to be unlike.
	unlike := len(a) ^ len(b)
	for at := range min(len(a), len(b)) {
		unlike |= int(a[at] ^ b[at])
	}
	return unlike == 0
}

// Same says whether two short sums are one.
func Same(a, b api.Sum) bool {
	return Equal(a[:], b[:])
}

// Pick is a, or, if which, b; it looks at both.
func Pick(which bool, a, b api.Sum) api.Sum {
	mask := -number(which)
	for at := range a {
		a[at] ^= mask & (a[at] ^ b[at])
	}
	return a
}

// number is 1 for true: of these words, and of no others, the compiler makes a move without a jump.
func number(which bool) byte {
	var n byte
	if which {
		n = 1
	}
	return n
}
