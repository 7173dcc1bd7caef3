package truth

import (
	"fingerpost/api"
	"fingerpost/proof"
)

// Ledger is what somebody was shown.
type Ledger struct {
	whole   [api.MaxNodes]bool       // whose seed is known
	nearest map[sequence]int         // the least metric that was shown
	shown   map[proof.Claim]struct{} // but for those of which a nearer one was shown ahead
}

// sequence is one of a destination.
type sequence struct {
	dest       int
	epoch, seq uint32
}

// Open is an empty ledger.
func Open() *Ledger {
	return &Ledger{}
}

// Show notes that a claim was shown.
func (l *Ledger) Show(c proof.Claim) api.Errno {
	switch {
	case l == nil:
		return api.ErrNil
	case !isDest(c.Dest) || c.Key.Metric < 0:
		return api.ErrArg
	}
	near := l.Nearest(c.Dest, c.Key.Epoch, c.Key.Seq)
	if near >= 0 && near < c.Key.Metric {
		// By the nearer one anybody can make this one: it tells nothing more.
		return api.OK
	}
	if l.shown == nil {
		l.nearest, l.shown = map[sequence]int{}, map[proof.Claim]struct{}{}
	}
	l.nearest[sequence{c.Dest, c.Key.Epoch, c.Key.Seq}] = c.Key.Metric
	l.shown[c] = struct{}{}
	return api.OK
}

// Whole notes that a destination's seed is known.
func (l *Ledger) Whole(dest int) api.Errno {
	switch {
	case l == nil:
		return api.ErrNil
	case !isDest(dest):
		return api.ErrArg
	}
	l.whole[dest] = true
	return api.OK
}

// Nearest is the least metric that was shown of a sequence; -1: none was.
func (l *Ledger) Nearest(dest int, epoch, seq uint32) int {
	if l == nil {
		return -1
	}
	if near, ok := l.nearest[sequence{dest, epoch, seq}]; ok {
		return near
	}
	return -1
}

// May says whether a claim can be made of what was shown: it was shown itself, or a nearer one was, or the seed is known.
func (l *Ledger) May(c proof.Claim) bool {
	if l == nil {
		return false
	}
	if isDest(c.Dest) && l.whole[c.Dest] {
		return true
	}
	if _, ok := l.shown[c]; ok {
		return true
	}
	near := l.Nearest(c.Dest, c.Key.Epoch, c.Key.Seq)
	return near >= 0 && near < c.Key.Metric
}

// What a claim that was taken is.
const (
	Fair = iota
	Guessed
	Other
)

// Judge is what a claim that was taken is, against what was shown.
func Judge(o *Oracle, l *Ledger, c proof.Claim, d proof.Cred) int {
	switch {
	case !o.Own(c, d):
		return Other
	case !l.May(c):
		return Guessed
	}
	return Fair
}

// isDest says whether there is such a destination.
func isDest(dest int) bool {
	return dest >= 0 && dest < api.MaxNodes
}
